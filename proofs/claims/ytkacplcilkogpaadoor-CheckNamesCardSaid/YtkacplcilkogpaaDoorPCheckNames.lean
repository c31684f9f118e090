/- The statement CheckNames, walked. -/
import Derived.Test.YtkacplcilkogpaaDoorPChkTr
import Derived.Test.YtkacplcilkogpaaDoorPLexStr
namespace Go.Proofs.YtkacplcilkogpaaDoor.Mm
open Go.ChangeShapes Go.WideShapes Go.ChangeAt Go.RowKit
set_option linter.unusedVariables false
set_option linter.unusedSimpArgs false
set_option maxRecDepth 10000

/-- two rows lie apart -/
def Apt (v v' : Value) : Prop := v.ownBlock = none ∨ v.ownBlock ≠ v'.ownBlock
theorem Apt.symm {v v' : Value} (h : Apt v v') : Apt v' v := by
  unfold Apt at *
  rcases h with h | h
  · rw [h]
    cases hv : v'.ownBlock with
    | none => exact .inl rfl
    | some k => exact .inr (by simp)
  · exact .inr (Ne.symm h)
theorem Apt.nw {w : World} {v v' u : Value} {B size n : Nat} {e : TypeId} {xs : List Value} (h : Apt u v) (nw : Nw w v.ownBlock v'.ownBlock) (o : w.ownsRow B e size u n xs) : Apt u v' := by
  unfold Apt at *
  rcases nw with n | ⟨b, n, hb⟩
  · rw [n]; exact h
  · rw [n]
    cases hu : u.ownBlock with
    | none => exact .inl rfl
    | some k =>
      right
      have := (o.lt k hu).2
      intro e
      injection e with e
      omega
structure Tr2 (w0 : World) (ja jb : Nat) (dva : Value) (Da : List Dc) (nva : Value) (Na : List (NdR × Value)) (dvb : Value) (Db : List Dc) (nvb : Value) (Nb : List (NdR × Value)) (w : World) : Prop where
  a : TrS w0 ja dva Da nva Na w
  b : TrS w0 jb dvb Db nvb Nb w
  j : ja ≠ jb
  d : Apt dva dvb
  n : Apt nva nvb
theorem Tr2.symm {w0 w : World} {ja jb : Nat} {dva nva dvb nvb : Value} {Da Db : List Dc} {Na Nb : List (NdR × Value)} (t : Tr2 w0 ja jb dva Da nva Na dvb Db nvb Nb w) : Tr2 w0 jb ja dvb Db nvb Nb dva Da nva Na w := ⟨t.b, t.a, Ne.symm t.j, t.d.symm, t.n.symm⟩
theorem Tr2.bel {w0 w w' : World} {ja jb : Nat} {dva nva dvb nvb : Value} {Da Db : List Dc} {Na Nb : List (NdR × Value)} (t : Tr2 w0 ja jb dva Da nva Na dvb Db nvb Nb w) (b : Below w.heap.size w w') : Tr2 w0 ja jb dva Da nva Na dvb Db nvb Nb w' := ⟨t.a.bel b, t.b.bel b, t.j, t.d, t.n⟩
theorem has_setj {w : World} {j k i : Nat} {t : TypeId} {cs : List Value} {x : Value} (h : HasB w k t cs) (hj : j ≠ k) : HasB (w.setCell ⟨j, i, none⟩ x) k t cs := by
  refine h.same ?_
  simp only [World.setCell, Array.getElem?_modify]
  rw [if_neg hj]
theorem Tr2.deca {w0 w w' : World} {ja jb : Nat} {dva dva' nva dvb nvb : Value} {Da Da' Db : List Dc} {Na Nb : List (NdR × Value)} (t : Tr2 w0 ja jb dva Da nva Na dvb Db nvb Nb w) (O : DcO w' w0.heap.size dva' Da') (g : w.grownBy w' dva.ownBlock) (n : Nw w dva.ownBlock dva'.ownBlock) :
    Tr2 w0 ja jb dva' Da' nva Na dvb Db nvb Nb (w'.setCell ⟨ja, 0, none⟩ dva') ∧ w'.cell? ⟨ja, 0, none⟩ = some dva ∧ w'.frozen? ⟨ja, 0, none⟩ = false ∧ Below w0.heap.size w0 w' := by
  obtain ⟨h1, h2, h3, h4⟩ := t.a.dec O g
  have ha : HasB w' ja 28 [dva, nva, .int .i64 0] := t.a.h.grown g (own_neB t.a.d t.a.h (by decide))
  have hb := t.b.h.grown g (own_neB t.a.d t.b.h (by decide))
  have db := own_grown t.b.d g t.d.symm
  have nb := own_grown t.b.n g (own_ne t.b.n t.a.d (by decide))
  exact ⟨⟨h1, ⟨has_setj hb t.j, t.b.j, own_setj db (own_neB db ha (by decide)), own_setj nb (own_neB nb ha (by decide)), h1.b⟩, t.j, (t.d.symm.nw n t.b.d).symm, t.n⟩, h2, h3, h4⟩
theorem Tr2.noda {w0 w w' : World} {ja jb : Nat} {dva nva nva' dvb nvb : Value} {Da Db : List Dc} {Na Na' Nb : List (NdR × Value)} (t : Tr2 w0 ja jb dva Da nva Na dvb Db nvb Nb w) (O : NdO w' w0.heap.size nva' Na') (g : w.grownBy w' nva.ownBlock) (n : Nw w nva.ownBlock nva'.ownBlock) :
    Tr2 w0 ja jb dva Da nva' Na' dvb Db nvb Nb (w'.setCell ⟨ja, 1, none⟩ nva') ∧ w'.cell? ⟨ja, 1, none⟩ = some nva ∧ w'.frozen? ⟨ja, 1, none⟩ = false ∧ Below w0.heap.size w0 w' := by
  obtain ⟨h1, h2, h3, h4⟩ := t.a.nod O g
  have ha : HasB w' ja 28 [dva, nva, .int .i64 0] := t.a.h.grown g (own_neB t.a.n t.a.h (by decide))
  have hb := t.b.h.grown g (own_neB t.a.n t.b.h (by decide))
  have nb := own_grown t.b.n g t.n.symm
  have db := own_grown t.b.d g (own_ne t.b.d t.a.n (by decide))
  exact ⟨⟨h1, ⟨has_setj hb t.j, t.b.j, own_setj db (own_neB db ha (by decide)), own_setj nb (own_neB nb ha (by decide)), h1.b⟩, t.j, t.d, (t.n.symm.nw n t.b.n).symm⟩, h2, h3, h4⟩
theorem Tr2.decb {w0 w w' : World} {ja jb : Nat} {dva dvb' nva dvb nvb : Value} {Da Db' Db : List Dc} {Na Nb : List (NdR × Value)} (t : Tr2 w0 ja jb dva Da nva Na dvb Db nvb Nb w) (O : DcO w' w0.heap.size dvb' Db') (g : w.grownBy w' dvb.ownBlock) (n : Nw w dvb.ownBlock dvb'.ownBlock) :
    Tr2 w0 ja jb dva Da nva Na dvb' Db' nvb Nb (w'.setCell ⟨jb, 0, none⟩ dvb') ∧ w'.cell? ⟨jb, 0, none⟩ = some dvb ∧ w'.frozen? ⟨jb, 0, none⟩ = false ∧ Below w0.heap.size w0 w' := by
  obtain ⟨h1, h2⟩ := t.symm.deca O g n
  exact ⟨h1.symm, h2⟩
theorem Tr2.nodb {w0 w w' : World} {ja jb : Nat} {dva nva nvb' dvb nvb : Value} {Da Db : List Dc} {Na Nb' Nb : List (NdR × Value)} (t : Tr2 w0 ja jb dva Da nva Na dvb Db nvb Nb w) (O : NdO w' w0.heap.size nvb' Nb') (g : w.grownBy w' nvb.ownBlock) (n : Nw w nvb.ownBlock nvb'.ownBlock) :
    Tr2 w0 ja jb dva Da nva Na dvb Db nvb' Nb' (w'.setCell ⟨jb, 1, none⟩ nvb') ∧ w'.cell? ⟨jb, 1, none⟩ = some nvb ∧ w'.frozen? ⟨jb, 1, none⟩ = false ∧ Below w0.heap.size w0 w' := by
  obtain ⟨h1, h2⟩ := t.symm.noda O g n
  exact ⟨h1.symm, h2⟩
def kdV (u : Bool × Bs) : NdR × Value := ndK (if u.1 then 8 else 7) u.2
def kdW (t : Bs) (u : Bool × Bs) : NdR × Value := ndK (if u.1 then 8 else 7) (u.2 ++ t)
theorem kdW_us (t : Bs) (U : List (Bool × Bs)) : usN (U.map (kdW t)) = (usN (U.map kdV)).map (tailU t) := by
  unfold usN
  rw [List.map_map, List.map_map, List.map_map]
  rfl
theorem kdV_ls (U : List (Bool × Bs)) : ∀ p ∈ U.map kdV, ∃ A l c, p.2 = .slice A l c := fun p hp => by
  obtain ⟨u, _, rfl⟩ := List.mem_map.1 hp
  exact ⟨none, 0, 0, rfl⟩
theorem kdW_ls (t : Bs) (U : List (Bool × Bs)) : ∀ p ∈ U.map (kdW t), ∃ A l c, p.2 = .slice A l c := fun p hp => by
  obtain ⟨u, _, rfl⟩ := List.mem_map.1 hp
  exact ⟨none, 0, 0, rfl⟩
set_option maxHeartbeats 64000000 in
theorem checkNames_walk (A : Option Addr) (n cap : Nat) (A' : Option Addr) (m cap' : Nat) (tail : ByteArray) (w : World) (hD : ∃ D : List Dc, n = D.length ∧ DcsAt w A cap D) (hU : ∃ U : List (Bool × Bs), m = U.length ∧ UssAt w A' cap' U) (ht : tail.size ≤ maxLen) (hE : EnvC w) :
    Calls Tryd.prog 6 #[.slice A n cap, .slice A' m cap', .string tail] w fun e w' => e = .returned (.bool true) ∧ Below w.heap.size w w' := by
  obtain ⟨D, hn, hD⟩ := hD
  obtain ⟨U, hm, hU⟩ := hU
  have HN := Lib.hid hn.symm
  have HM := Lib.hid hm.symm
  have RD := Lib.hid hD
  have RU := Lib.hid hU
  have AW := Lib.hid (fun W (k : Below w.heap.size w W) => awakeC W (hE.below k))
  have B0 := Lib.hid (Below.refl w.heap.size w)
  obtain ⟨t, htt⟩ : ∃ t : Bs, tail.data.toList = t := ⟨_, rfl⟩
  have HTL := Lib.hid (show ∀ s : Bs, strB (s ++ t) = strB s ++ tail from fun s => by rw [← strB_app, ← htt, strB_list])
  have HTT := Lib.hid (show t.length = tail.size by rw [← htt, ← Lib.size_eq])
  clear hn hm hD hU hE htt
  by_cases h50 : 50 < n
  · have hi : (50 : Int) < (n : Int) := by omega
    go_enter Tryd.func6, Tryd.ntmps6
    go_wp2_with fail
    refine (AW.out _ B0.out).mono ?_; rintro e w1 ⟨rfl, hb⟩
    have B1 := Lib.hid hb
    clear hb
    go_wp2_with fail
    refine (AW.out _ B1.out).mono ?_; rintro e w2 ⟨rfl, hb⟩
    have B2 := Lib.hid (bel_then B1.out hb)
    clear hb
    go_wp2
    go_ret
    exact ⟨rfl, B2.out⟩
  by_cases h51 : 50 < m
  · have hi : ¬ (50 : Int) < (n : Int) := by omega
    have hj : (50 : Int) < (m : Int) := by omega
    go_enter Tryd.func6, Tryd.ntmps6
    go_wp2_with fail
    refine (AW.out _ B0.out).mono ?_; rintro e w1 ⟨rfl, hb⟩
    have B1 := Lib.hid hb
    clear hb
    go_wp2_with fail
    refine (AW.out _ B1.out).mono ?_; rintro e w2 ⟨rfl, hb⟩
    have B2 := Lib.hid (bel_then B1.out hb)
    clear hb
    go_wp2
    go_ret
    exact ⟨rfl, B2.out⟩
  by_cases h10 : 10 < tail.size
  · have hi : ¬ (50 : Int) < (n : Int) := by omega
    have hj : ¬ (50 : Int) < (m : Int) := by omega
    have hq : (10 : Int) < (tail.size : Int) := by omega
    go_enter Tryd.func6, Tryd.ntmps6
    go_wp2_with fail
    refine (AW.out _ B0.out).mono ?_; rintro e w1 ⟨rfl, hb⟩
    have B1 := Lib.hid hb
    clear hb
    go_wp2_with fail
    refine (AW.out _ B1.out).mono ?_; rintro e w2 ⟨rfl, hb⟩
    have B2 := Lib.hid (bel_then B1.out hb)
    clear hb
    go_wp2
    go_ret
    exact ⟨rfl, B2.out⟩
  have hi : ¬ (50 : Int) < (n : Int) := by omega
  have hj : ¬ (50 : Int) < (m : Int) := by omega
  have hq : ¬ (10 : Int) < (tail.size : Int) := by omega
  have ht10 : tail.size ≤ 10 := by omega
  go_enter Tryd.func6, Tryd.ntmps6
  go_wp2_with fail
  refine (AW.out _ B0.out).mono ?_; rintro e w1 ⟨rfl, hb⟩
  have B1 := Lib.hid hb
  clear hb AW
  obtain ⟨w2, e2, T2⟩ : ∃ w2, w1.alloc (.cells #[.slice none 0 0, .slice none 0 0, .int .i64 0] 28) = w2 ∧ Hid (TrS w w1.heap.size (.slice none 0 0) [] (.slice none 0 0) [] w2) := ⟨_, rfl, Lib.hid (TrS.new w w1 B1.out)⟩
  obtain ⟨w3, e3, T3⟩ : ∃ w3, w2.alloc (.cells #[.slice none 0 0, .slice none 0 0, .int .i64 0] 28) = w3 ∧ Hid (Tr2 w w1.heap.size w2.heap.size (.slice none 0 0) [] (.slice none 0 0) [] (.slice none 0 0) [] (.slice none 0 0) [] w3) := ⟨_, rfl, Lib.hid ⟨T2.out.bel (bel_al (Below.refl _ _) _), TrS.new w w2 T2.out.b, by have := T2.out.h.lt; omega, .inl rfl, .inl rfl⟩⟩
  go_wp2
  go_loopw [9] (fun i wd => ∃ (k : Nat) (dva dvb : Value), i = .int .i64 k ∧ k ≤ n ∧ Hid (Tr2 w w1.heap.size w2.heap.size dva (D.take k) (.slice none 0 0) [] dvb ((D.take k).map (tailD t)) (.slice none 0 0) [] wd) ∧ Hid (∀ d ∈ D.take k, d.1.length ≤ 20)) (fun i _ => n - (intOf i).toNat)
  case atStart => exact ⟨0, _, _, rfl, Nat.zero_le _, T3, Lib.hid (fun d h => by simp at h)⟩
  case round =>
    obtain ⟨k, dva, dvb, rfl, hk, HT, HI⟩ := hrel
    clear T2 e2 T3 e3 B1
    by_cases hlt : k < n
    · obtain ⟨x, rfl, hxb, hc⟩ := RD.out.2.2 (by rw [HN.out]; omega)
      have CW := Lib.hid (fun (W : World) (b : Below w.heap.size w W) => (⟨(b.cell (by rw [block_add]; exact hxb)).trans (hc k (by rw [HN.out]; exact hlt)).1, (b.cell (p := ⟨(x.add (k * 2)).block, (x.add (k * 2)).off + 1, none⟩) (by show (x.add (k * 2)).block < _; rw [block_add]; exact hxb)).trans (hc k (by rw [HN.out]; exact hlt)).2⟩ : W.cell? (x.add (k * 2)) = some (.string (strB (D.getD k dz0).1)) ∧ W.cell? ⟨(x.add (k * 2)).block, (x.add (k * 2)).off + 1, none⟩ = some (.int .i64 (D.getD k dz0).2)))
      have KM := Lib.hid (take_snocD D k dz0 (by rw [HN.out]; exact hlt))
      clear hc hxb
      generalize D.getD k dz0 = d at *
      obtain ⟨s, z⟩ := d
      simp only at CW
      obtain ⟨c0, c1⟩ := CW.out wr HT.out.a.b
      have hki : (k : Int) < (n : Int) := by omega
      by_cases h20 : 20 < (strB s).size
      · have h20i : (20 : Int) < ((strB s).size : Int) := by omega
        go_wp2
        go_ret
        exact ⟨rfl, HT.out.a.b⟩
      · have h20i : ¬ (20 : Int) < ((strB s).size : Int) := by omega
        have hs20 : (strB s).size ≤ 20 := by omega
        have hcat : ¬ 9223372036854775807 < (strB s).size + tail.size := by omega
        have I9 : Hid (∀ d ∈ D.take (k + 1), d.1.length ≤ 20) := Lib.hid (fun d hd => by
          rw [KM.out] at hd
          rcases List.mem_append.1 hd with hd | hd
          · exact HI.out d hd
          · rw [List.mem_singleton.1 hd]; show s.length ≤ _; rw [← strB_size]; omega)
        obtain ⟨Aa, na, ka, hdv⟩ : ∃ A n c, dva = .slice A n c := by obtain ⟨A, c, e⟩ := own_form HT.out.a.d; exact ⟨A, _, c, e⟩
        subst hdv
        obtain ⟨Ab, nb, kb, hdv⟩ : ∃ A n c, dvb = .slice A n c := by obtain ⟨A, c, e⟩ := own_form HT.out.b.d; exact ⟨A, _, c, e⟩
        subst hdv
        have BD := Lib.hid (below_drewP HT.out.a.b)
        obtain ⟨W7, e7, T7, Q7⟩ : ∃ W7, wr.drew.alloc (.cells #[.string (strB s), .int .i64 z] 31) = W7 ∧ Hid (Tr2 w w1.heap.size w2.heap.size (.slice Aa na ka) (D.take k) (.slice none 0 0) [] (.slice Ab nb kb) ((D.take k).map (tailD t)) (.slice none 0 0) [] W7) ∧ Hid (HasB W7 wr.heap.size 31 [.string (strB s), .int .i64 z]) := ⟨_, rfl, Lib.hid (HT.out.bel (bel_al (below_drewP (Below.refl _ wr)) _)), Lib.hid (HasB.new wr.drew _ _)⟩
        have t0 := HT.out.a.h.cell 0
        have u0 := T7.out.a.h.cell 0
        simp only [List.getElem?_cons_zero] at t0 u0
        have KS := Lib.hid (fun (w' : World) (b : Below w.heap.size w w') => (show (fun w' => w'.cell? (x.add (k * 2)) = some (.string (strB s)) ∧ w'.cell? ⟨(x.add (k * 2)).block, (x.add (k * 2)).off + 1, none⟩ = some (.int .i64 z)) w' from CW.out w' b))
        clear HI c1
        go_wp2_with fail
        refine wp_region_noPanic ?_
        refine wp_region_held_drew (S := (fun w' => w'.cell? (x.add (k * 2)) = some (.string (strB s)) ∧ w'.cell? ⟨(x.add (k * 2)).block, (x.add (k * 2)).off + 1, none⟩ = some (.int .i64 z))) (by kernel_rfl) ?_ (fun hHeld => ?_)
        · (try dsimp only)
          exact KS.out _ BD.out
        refine wpAnyH_take (i := 0) (oi := { dst := some 43, op := Op.fieldAddr 28 (Operand.tmp 7) 0, type := 0, pos := "law.go:141", after := #[], guard := none }) (v := ?_) rfl (by kernel_rfl) (by kernel_rfl) (by kernel_rfl) (fun _ _ _ h => h) (Or.inl ⟨by rfl, ?_⟩) (by assumption) ?_
        rotate_left
        · intro w hSw; (try dsimp only at hSw); go_simp <;> (with_reducible rfl)
        (try simp only [Act.put, List.setIfInBounds_toArray, List.set_cons_zero, List.set_cons_succ])
        refine wpAnyH_take (i := 2) (oi := { dst := some 45, op := Op.move (Operand.tmp 0), type := 22, pos := "law.go:141", after := #[], guard := none }) (v := ?_) rfl (by kernel_rfl) (by kernel_rfl) (by kernel_rfl) (fun _ _ _ h => h) (Or.inl ⟨by rfl, ?_⟩) (by assumption) ?_
        rotate_left
        · intro w hSw; (try dsimp only at hSw); go_simp <;> (with_reducible rfl)
        (try simp only [Act.put, List.setIfInBounds_toArray, List.set_cons_zero, List.set_cons_succ])
        refine wpAnyH_take (i := 3) (oi := { dst := some 46, op := Op.move (Operand.tmp 9), type := 3, pos := "law.go:141", after := #[], guard := none }) (v := ?_) rfl (by kernel_rfl) (by kernel_rfl) (by kernel_rfl) (fun _ _ _ h => h) (Or.inl ⟨by rfl, ?_⟩) (by assumption) ?_
        rotate_left
        · intro w hSw; (try dsimp only at hSw); go_simp <;> (with_reducible rfl)
        (try simp only [Act.put, List.setIfInBounds_toArray, List.set_cons_zero, List.set_cons_succ])
        refine wpAnyH_take (i := 4) (oi := { dst := some 47, op := Op.indexAddr 22 (Operand.tmp 45) (Operand.tmp 46), type := 0, pos := "law.go:141", after := #[{ on := 2, ground := Ground.data }, { on := 3, ground := Ground.data }], guard := none }) (v := ?_) rfl (by kernel_rfl) (by kernel_rfl) (by kernel_rfl) (fun _ _ _ h => h) (Or.inl ⟨by rfl, ?_⟩) (by assumption) ?_
        rotate_left
        · intro w hSw; (try dsimp only at hSw); go_simp <;> (with_reducible rfl)
        (try simp only [Act.put, List.setIfInBounds_toArray, List.set_cons_zero, List.set_cons_succ])
        refine wpAnyH_take (i := 5) (oi := { dst := some 48, op := Op.fieldAddr 30 (Operand.tmp 47) 0, type := 0, pos := "law.go:141", after := #[{ on := 4, ground := Ground.data }], guard := none }) (v := ?_) rfl (by kernel_rfl) (by kernel_rfl) (by kernel_rfl) (fun _ _ _ h => h) (Or.inl ⟨by rfl, ?_⟩) (by assumption) ?_
        rotate_left
        · intro w hSw; (try dsimp only at hSw); go_simp <;> (with_reducible rfl)
        (try simp only [Act.put, List.setIfInBounds_toArray, List.set_cons_zero, List.set_cons_succ])
        refine wpAnyH_take (i := 6) (oi := { dst := some 49, op := Op.load 9 (Operand.tmp 48), type := 9, pos := "law.go:141", after := #[{ on := 5, ground := Ground.data }], guard := none }) (v := ?_) rfl (by kernel_rfl) (by kernel_rfl) (by kernel_rfl) (fun _ _ _ h => h) (Or.inl ⟨by rfl, ?_⟩) (by assumption) ?_
        rotate_left
        · intro w hSw; (try dsimp only at hSw); go_simp <;> (with_reducible rfl)
        (try simp only [Act.put, List.setIfInBounds_toArray, List.set_cons_zero, List.set_cons_succ])
        refine wpAnyH_take (i := 7) (oi := { dst := some 50, op := Op.move (Operand.tmp 0), type := 22, pos := "law.go:141", after := #[], guard := none }) (v := ?_) rfl (by kernel_rfl) (by kernel_rfl) (by kernel_rfl) (fun _ _ _ h => h) (Or.inl ⟨by rfl, ?_⟩) (by assumption) ?_
        rotate_left
        · intro w hSw; (try dsimp only at hSw); go_simp <;> (with_reducible rfl)
        (try simp only [Act.put, List.setIfInBounds_toArray, List.set_cons_zero, List.set_cons_succ])
        refine wpAnyH_take (i := 8) (oi := { dst := some 51, op := Op.move (Operand.tmp 9), type := 3, pos := "law.go:141", after := #[], guard := none }) (v := ?_) rfl (by kernel_rfl) (by kernel_rfl) (by kernel_rfl) (fun _ _ _ h => h) (Or.inl ⟨by rfl, ?_⟩) (by assumption) ?_
        rotate_left
        · intro w hSw; (try dsimp only at hSw); go_simp <;> (with_reducible rfl)
        (try simp only [Act.put, List.setIfInBounds_toArray, List.set_cons_zero, List.set_cons_succ])
        refine wpAnyH_take (i := 9) (oi := { dst := some 52, op := Op.indexAddr 22 (Operand.tmp 50) (Operand.tmp 51), type := 0, pos := "law.go:141", after := #[{ on := 7, ground := Ground.data }, { on := 8, ground := Ground.data }], guard := none }) (v := ?_) rfl (by kernel_rfl) (by kernel_rfl) (by kernel_rfl) (fun _ _ _ h => h) (Or.inl ⟨by rfl, ?_⟩) (by assumption) ?_
        rotate_left
        · intro w hSw; (try dsimp only at hSw); go_simp <;> (with_reducible rfl)
        (try simp only [Act.put, List.setIfInBounds_toArray, List.set_cons_zero, List.set_cons_succ])
        refine wpAnyH_take (i := 10) (oi := { dst := some 53, op := Op.fieldAddr 30 (Operand.tmp 52) 1, type := 0, pos := "law.go:141", after := #[{ on := 9, ground := Ground.data }], guard := none }) (v := ?_) rfl (by kernel_rfl) (by kernel_rfl) (by kernel_rfl) (fun _ _ _ h => h) (Or.inl ⟨by rfl, ?_⟩) (by assumption) ?_
        rotate_left
        · intro w hSw; (try dsimp only at hSw); go_simp <;> (with_reducible rfl)
        (try simp only [Act.put, List.setIfInBounds_toArray, List.set_cons_zero, List.set_cons_succ])
        refine wpAnyH_take (i := 11) (oi := { dst := some 54, op := Op.load 3 (Operand.tmp 53), type := 3, pos := "law.go:141", after := #[{ on := 10, ground := Ground.data }], guard := none }) (v := ?_) rfl (by kernel_rfl) (by kernel_rfl) (by kernel_rfl) (fun _ _ _ h => h) (Or.inl ⟨by rfl, ?_⟩) (by assumption) ?_
        rotate_left
        · intro w hSw; (try dsimp only at hSw); go_simp <;> (with_reducible rfl)
        (try simp only [Act.put, List.setIfInBounds_toArray, List.set_cons_zero, List.set_cons_succ])
        refine wpAnyH_take (i := 12) (oi := { dst := some 55, op := Op.build 31 #[(0, Operand.tmp 49), (1, Operand.tmp 54)], type := 31, pos := "law.go:141", after := #[{ on := 6, ground := Ground.data }, { on := 11, ground := Ground.data }], guard := none }) (v := ?_) rfl (by kernel_rfl) (by kernel_rfl) (by kernel_rfl) (fun _ _ _ h => h) (Or.inl ⟨by rfl, ?_⟩) (by assumption) ?_
        rotate_left
        · intro w hSw; (try dsimp only at hSw); go_simp <;> (with_reducible rfl)
        (try simp only [Act.put, List.setIfInBounds_toArray, List.set_cons_zero, List.set_cons_succ])
        refine wpAnyH_ready (rs := [1, 13]) (by kernel_rfl) (by simp) ?_
        refine AllReadyH.cons (o := { dst := some 44, op := Op.load 25 (Operand.tmp 43), type := 25, pos := "law.go:141", after := #[{ on := 0, ground := Ground.data }], guard := none }) rfl (fun K hK => ?_) ?_
        · go_simp
          refine hK.out _ _ ?_ (fun hHeld => ?_)
          · (try dsimp only)
            first | exact KS.out _ BD.out | exact KS.out _ T7.out.a.b
          clear hK K
          (try simp only [Act.put, List.setIfInBounds_toArray, List.set_cons_zero, List.set_cons_succ])
          refine wpAnyH_ready (rs := [13]) (by kernel_rfl) (by simp) ?_
          refine AllReadyH.cons (o := { dst := some 56, op := Op.buildSlice 25 1 #[(0, Operand.tmp 55)], type := 25, pos := "law.go:141", after := #[{ on := 12, ground := Ground.data }], guard := none }) rfl (fun K hK => ?_) ?_
          · go_simp
            refine hK.out _ _ ?_ (fun hHeld => ?_)
            · (try dsimp only)
              exact KS.out _ T7.out.a.b
            clear hK K
            (try simp only [Act.put, List.setIfInBounds_toArray, List.set_cons_zero, List.set_cons_succ])
            refine wpAnyH_ready (rs := [14]) (by kernel_rfl) (by simp) ?_
            refine AllReadyH.cons (o := { dst := some 57, op := Op.call { callee := Callee.builtin Builtin.append, args := #[Operand.tmp 44, Operand.tmp 56], argTypes := #[25, 25] }, type := 25, pos := "law.go:141", after := #[{ on := 1, ground := Ground.data }, { on := 13, ground := Ground.data }], guard := none }) rfl (fun K hK => ?_) ?_
            · refine app_dcO (.tmp 44) (.tmp 56) rfl T7.out.a.d rfl (s, z) wr.heap.size rfl Q7.out (by rw [List.length_take]; omega) T7.out.a.b.size ?_
              intro v8a w8a O8 g8 n8 one8
              obtain ⟨A8a, l8a, k8a, rfl⟩ : ∃ A n c, v8a = .slice A n c := by obtain ⟨A, c, e⟩ := own_form O8; exact ⟨A, _, c, e⟩
              obtain ⟨T9a, c8a, f8a, B8a⟩ := T7.out.deca O8 g8 n8
              have B8a := Lib.hid B8a
              have T9a := Lib.hid T9a
              clear O8 g8 n8 one8
              refine hK.out _ _ ?_ (fun hHeld => ?_)
              · (try dsimp only)
                exact KS.out _ B8a.out
              clear hK K
              (try simp only [Act.put, List.setIfInBounds_toArray, List.set_cons_zero, List.set_cons_succ])
              refine wpAnyH_take (i := 15) (oi := { dst := some 58, op := Op.fieldAddr 28 (Operand.tmp 7) 0, type := 0, pos := "law.go:141", after := #[{ on := 0, ground := Ground.phase }, { on := 1, ground := Ground.phase }, { on := 2, ground := Ground.phase }, { on := 3, ground := Ground.phase }, { on := 4, ground := Ground.phase }, { on := 5, ground := Ground.phase }, { on := 6, ground := Ground.phase }, { on := 7, ground := Ground.phase }, { on := 8, ground := Ground.phase }, { on := 9, ground := Ground.phase }, { on := 10, ground := Ground.phase }, { on := 11, ground := Ground.phase }, { on := 12, ground := Ground.phase }, { on := 13, ground := Ground.phase }, { on := 14, ground := Ground.phase }], guard := none }) (v := ?_) rfl (by kernel_rfl) (by kernel_rfl) (by kernel_rfl) (fun _ _ _ h => h) (Or.inl ⟨by rfl, ?_⟩) (by assumption) ?_
              rotate_left
              · intro w hSw; (try dsimp only at hSw); go_simp <;> (with_reducible rfl)
              (try simp only [Act.put, List.setIfInBounds_toArray, List.set_cons_zero, List.set_cons_succ])
              refine wpAnyH_ready (rs := [16]) (by kernel_rfl) (by simp) ?_
              refine AllReadyH.cons (o := { dst := none, op := Op.store 25 (Operand.tmp 58) (Operand.tmp 57), type := 0, pos := "law.go:141", after := #[{ on := 15, ground := Ground.data }, { on := 14, ground := Ground.data }, { on := 14, ground := Ground.chain }, { on := 0, ground := Ground.phase }, { on := 1, ground := Ground.phase }, { on := 2, ground := Ground.phase }, { on := 3, ground := Ground.phase }, { on := 4, ground := Ground.phase }, { on := 5, ground := Ground.phase }, { on := 6, ground := Ground.phase }, { on := 7, ground := Ground.phase }, { on := 8, ground := Ground.phase }, { on := 9, ground := Ground.phase }, { on := 10, ground := Ground.phase }, { on := 11, ground := Ground.phase }, { on := 12, ground := Ground.phase }, { on := 13, ground := Ground.phase }, { on := 14, ground := Ground.phase }], guard := none }) rfl (fun K hK => ?_) ?_
              · go_simp
                refine hK.out _ _ ?_ (fun hHeld => ?_)
                · (try dsimp only)
                  exact KS.out _ T9a.out.a.b
                clear hK K
                (try simp only [Act.put, List.setIfInBounds_toArray, List.set_cons_zero, List.set_cons_succ])
                refine wpAnyH_done (by kernel_rfl) ?_ _
                refine NoPanic.normal ?_
                generalize w8a.setCell ⟨w1.heap.size, 0, none⟩ (.slice A8a l8a k8a) = w9 at *
                clear hHeld B8a c8a f8a
                have BD2 := Lib.hid (below_drewP T9a.out.a.b)
                obtain ⟨W5, e5, T5, Q5⟩ : ∃ W5, w9.drew.alloc (.cells #[.string (strB s ++ tail), .int .i64 z] 31) = W5 ∧ Hid (Tr2 w w1.heap.size w2.heap.size (.slice A8a l8a k8a) (D.take k ++ [(s, z)]) (.slice none 0 0) [] (.slice Ab nb kb) ((D.take k).map (tailD t)) (.slice none 0 0) [] W5) ∧ Hid (HasB W5 w9.heap.size 31 [.string (strB (s ++ t)), .int .i64 z]) := ⟨_, rfl, Lib.hid (T9a.out.bel (bel_al (below_drewP (Below.refl _ w9)) _)), Lib.hid (by rw [HTL.out]; exact HasB.new w9.drew _ _)⟩
                have m0 := T9a.out.b.h.cell 0
                have m1 := T5.out.b.h.cell 0
                simp only [List.getElem?_cons_zero] at m0 m1
                go_wp2_with fail
                refine wp_region_noPanic ?_
                refine wp_region_held_drew (S := (fun w' => w'.cell? (x.add (k * 2)) = some (.string (strB s)) ∧ w'.cell? ⟨(x.add (k * 2)).block, (x.add (k * 2)).off + 1, none⟩ = some (.int .i64 z))) (by kernel_rfl) ?_ (fun hHeld => ?_)
                · (try dsimp only)
                  exact KS.out _ BD2.out
                refine wpAnyH_take (i := 0) (oi := { dst := some 59, op := Op.fieldAddr 28 (Operand.tmp 8) 0, type := 0, pos := "law.go:142", after := #[], guard := none }) (v := ?_) rfl (by kernel_rfl) (by kernel_rfl) (by kernel_rfl) (fun _ _ _ h => h) (Or.inl ⟨by rfl, ?_⟩) (by assumption) ?_
                rotate_left
                · intro w hSw; (try dsimp only at hSw); go_simp <;> (with_reducible rfl)
                (try simp only [Act.put, List.setIfInBounds_toArray, List.set_cons_zero, List.set_cons_succ])
                refine wpAnyH_take (i := 2) (oi := { dst := some 61, op := Op.move (Operand.tmp 0), type := 22, pos := "law.go:142", after := #[], guard := none }) (v := ?_) rfl (by kernel_rfl) (by kernel_rfl) (by kernel_rfl) (fun _ _ _ h => h) (Or.inl ⟨by rfl, ?_⟩) (by assumption) ?_
                rotate_left
                · intro w hSw; (try dsimp only at hSw); go_simp <;> (with_reducible rfl)
                (try simp only [Act.put, List.setIfInBounds_toArray, List.set_cons_zero, List.set_cons_succ])
                refine wpAnyH_take (i := 3) (oi := { dst := some 62, op := Op.move (Operand.tmp 9), type := 3, pos := "law.go:142", after := #[], guard := none }) (v := ?_) rfl (by kernel_rfl) (by kernel_rfl) (by kernel_rfl) (fun _ _ _ h => h) (Or.inl ⟨by rfl, ?_⟩) (by assumption) ?_
                rotate_left
                · intro w hSw; (try dsimp only at hSw); go_simp <;> (with_reducible rfl)
                (try simp only [Act.put, List.setIfInBounds_toArray, List.set_cons_zero, List.set_cons_succ])
                refine wpAnyH_take (i := 4) (oi := { dst := some 63, op := Op.indexAddr 22 (Operand.tmp 61) (Operand.tmp 62), type := 0, pos := "law.go:142", after := #[{ on := 2, ground := Ground.data }, { on := 3, ground := Ground.data }], guard := none }) (v := ?_) rfl (by kernel_rfl) (by kernel_rfl) (by kernel_rfl) (fun _ _ _ h => h) (Or.inl ⟨by rfl, ?_⟩) (by assumption) ?_
                rotate_left
                · intro w hSw; (try dsimp only at hSw); go_simp <;> (with_reducible rfl)
                (try simp only [Act.put, List.setIfInBounds_toArray, List.set_cons_zero, List.set_cons_succ])
                refine wpAnyH_take (i := 5) (oi := { dst := some 64, op := Op.fieldAddr 30 (Operand.tmp 63) 0, type := 0, pos := "law.go:142", after := #[{ on := 4, ground := Ground.data }], guard := none }) (v := ?_) rfl (by kernel_rfl) (by kernel_rfl) (by kernel_rfl) (fun _ _ _ h => h) (Or.inl ⟨by rfl, ?_⟩) (by assumption) ?_
                rotate_left
                · intro w hSw; (try dsimp only at hSw); go_simp <;> (with_reducible rfl)
                (try simp only [Act.put, List.setIfInBounds_toArray, List.set_cons_zero, List.set_cons_succ])
                refine wpAnyH_take (i := 6) (oi := { dst := some 65, op := Op.load 9 (Operand.tmp 64), type := 9, pos := "law.go:142", after := #[{ on := 5, ground := Ground.data }], guard := none }) (v := ?_) rfl (by kernel_rfl) (by kernel_rfl) (by kernel_rfl) (fun _ _ _ h => h) (Or.inl ⟨by rfl, ?_⟩) (by assumption) ?_
                rotate_left
                · intro w hSw; (try dsimp only at hSw); go_simp <;> (with_reducible rfl)
                (try simp only [Act.put, List.setIfInBounds_toArray, List.set_cons_zero, List.set_cons_succ])
                refine wpAnyH_take (i := 7) (oi := { dst := some 66, op := Op.move (Operand.tmp 2), type := 9, pos := "law.go:142", after := #[], guard := none }) (v := ?_) rfl (by kernel_rfl) (by kernel_rfl) (by kernel_rfl) (fun _ _ _ h => h) (Or.inl ⟨by rfl, ?_⟩) (by assumption) ?_
                rotate_left
                · intro w hSw; (try dsimp only at hSw); go_simp <;> (with_reducible rfl)
                (try simp only [Act.put, List.setIfInBounds_toArray, List.set_cons_zero, List.set_cons_succ])
                refine wpAnyH_take (i := 8) (oi := { dst := some 67, op := Op.binOp BinOp.add 9 (Operand.tmp 65) (Operand.tmp 66) 9, type := 9, pos := "law.go:142", after := #[{ on := 6, ground := Ground.data }, { on := 7, ground := Ground.data }], guard := none }) (v := ?_) rfl (by kernel_rfl) (by kernel_rfl) (by kernel_rfl) (fun _ _ _ h => h) (Or.inl ⟨by rfl, ?_⟩) (by assumption) ?_
                rotate_left
                · intro w hSw; (try dsimp only at hSw); go_simp <;> (with_reducible rfl)
                (try simp only [Act.put, List.setIfInBounds_toArray, List.set_cons_zero, List.set_cons_succ])
                refine wpAnyH_take (i := 9) (oi := { dst := some 68, op := Op.move (Operand.tmp 0), type := 22, pos := "law.go:142", after := #[], guard := none }) (v := ?_) rfl (by kernel_rfl) (by kernel_rfl) (by kernel_rfl) (fun _ _ _ h => h) (Or.inl ⟨by rfl, ?_⟩) (by assumption) ?_
                rotate_left
                · intro w hSw; (try dsimp only at hSw); go_simp <;> (with_reducible rfl)
                (try simp only [Act.put, List.setIfInBounds_toArray, List.set_cons_zero, List.set_cons_succ])
                refine wpAnyH_take (i := 10) (oi := { dst := some 69, op := Op.move (Operand.tmp 9), type := 3, pos := "law.go:142", after := #[], guard := none }) (v := ?_) rfl (by kernel_rfl) (by kernel_rfl) (by kernel_rfl) (fun _ _ _ h => h) (Or.inl ⟨by rfl, ?_⟩) (by assumption) ?_
                rotate_left
                · intro w hSw; (try dsimp only at hSw); go_simp <;> (with_reducible rfl)
                (try simp only [Act.put, List.setIfInBounds_toArray, List.set_cons_zero, List.set_cons_succ])
                refine wpAnyH_take (i := 11) (oi := { dst := some 70, op := Op.indexAddr 22 (Operand.tmp 68) (Operand.tmp 69), type := 0, pos := "law.go:142", after := #[{ on := 9, ground := Ground.data }, { on := 10, ground := Ground.data }], guard := none }) (v := ?_) rfl (by kernel_rfl) (by kernel_rfl) (by kernel_rfl) (fun _ _ _ h => h) (Or.inl ⟨by rfl, ?_⟩) (by assumption) ?_
                rotate_left
                · intro w hSw; (try dsimp only at hSw); go_simp <;> (with_reducible rfl)
                (try simp only [Act.put, List.setIfInBounds_toArray, List.set_cons_zero, List.set_cons_succ])
                refine wpAnyH_take (i := 12) (oi := { dst := some 71, op := Op.fieldAddr 30 (Operand.tmp 70) 1, type := 0, pos := "law.go:142", after := #[{ on := 11, ground := Ground.data }], guard := none }) (v := ?_) rfl (by kernel_rfl) (by kernel_rfl) (by kernel_rfl) (fun _ _ _ h => h) (Or.inl ⟨by rfl, ?_⟩) (by assumption) ?_
                rotate_left
                · intro w hSw; (try dsimp only at hSw); go_simp <;> (with_reducible rfl)
                (try simp only [Act.put, List.setIfInBounds_toArray, List.set_cons_zero, List.set_cons_succ])
                refine wpAnyH_take (i := 13) (oi := { dst := some 72, op := Op.load 3 (Operand.tmp 71), type := 3, pos := "law.go:142", after := #[{ on := 12, ground := Ground.data }], guard := none }) (v := ?_) rfl (by kernel_rfl) (by kernel_rfl) (by kernel_rfl) (fun _ _ _ h => h) (Or.inl ⟨by rfl, ?_⟩) (by assumption) ?_
                rotate_left
                · intro w hSw; (try dsimp only at hSw); go_simp <;> (with_reducible rfl)
                (try simp only [Act.put, List.setIfInBounds_toArray, List.set_cons_zero, List.set_cons_succ])
                refine wpAnyH_take (i := 14) (oi := { dst := some 73, op := Op.build 31 #[(0, Operand.tmp 67), (1, Operand.tmp 72)], type := 31, pos := "law.go:142", after := #[{ on := 8, ground := Ground.data }, { on := 13, ground := Ground.data }], guard := none }) (v := ?_) rfl (by kernel_rfl) (by kernel_rfl) (by kernel_rfl) (fun _ _ _ h => h) (Or.inl ⟨by rfl, ?_⟩) (by assumption) ?_
                rotate_left
                · intro w hSw; (try dsimp only at hSw); go_simp <;> (with_reducible rfl)
                (try simp only [Act.put, List.setIfInBounds_toArray, List.set_cons_zero, List.set_cons_succ])
                refine wpAnyH_ready (rs := [1, 15]) (by kernel_rfl) (by simp) ?_
                refine AllReadyH.cons (o := { dst := some 60, op := Op.load 25 (Operand.tmp 59), type := 25, pos := "law.go:142", after := #[{ on := 0, ground := Ground.data }], guard := none }) rfl (fun K hK => ?_) ?_
                · go_simp
                  refine hK.out _ _ ?_ (fun hHeld => ?_)
                  · (try dsimp only)
                    first | exact KS.out _ BD2.out | exact KS.out _ T5.out.a.b
                  clear hK K
                  (try simp only [Act.put, List.setIfInBounds_toArray, List.set_cons_zero, List.set_cons_succ])
                  refine wpAnyH_ready (rs := [15]) (by kernel_rfl) (by simp) ?_
                  refine AllReadyH.cons (o := { dst := some 74, op := Op.buildSlice 25 1 #[(0, Operand.tmp 73)], type := 25, pos := "law.go:142", after := #[{ on := 14, ground := Ground.data }], guard := none }) rfl (fun K hK => ?_) ?_
                  · go_simp
                    refine hK.out _ _ ?_ (fun hHeld => ?_)
                    · (try dsimp only)
                      exact KS.out _ T5.out.a.b
                    clear hK K
                    (try simp only [Act.put, List.setIfInBounds_toArray, List.set_cons_zero, List.set_cons_succ])
                    refine wpAnyH_ready (rs := [16]) (by kernel_rfl) (by simp) ?_
                    refine AllReadyH.cons (o := { dst := some 75, op := Op.call { callee := Callee.builtin Builtin.append, args := #[Operand.tmp 60, Operand.tmp 74], argTypes := #[25, 25] }, type := 25, pos := "law.go:142", after := #[{ on := 1, ground := Ground.data }, { on := 15, ground := Ground.data }], guard := none }) rfl (fun K hK => ?_) ?_
                    · refine app_dcO (.tmp 60) (.tmp 74) rfl T5.out.b.d rfl (s ++ t, z) w9.heap.size rfl Q5.out (by rw [List.length_map, List.length_take]; omega) T5.out.b.b.size ?_
                      intro v8b w8b O8 g8 n8 one8
                      obtain ⟨A8b, l8b, k8b, rfl⟩ : ∃ A n c, v8b = .slice A n c := by obtain ⟨A, c, e⟩ := own_form O8; exact ⟨A, _, c, e⟩
                      obtain ⟨T9b, c8b, f8b, B8b⟩ := T5.out.decb O8 g8 n8
                      have B8b := Lib.hid B8b
                      have T9b := Lib.hid T9b
                      clear O8 g8 n8 one8
                      refine hK.out _ _ ?_ (fun hHeld => ?_)
                      · (try dsimp only)
                        exact KS.out _ B8b.out
                      clear hK K
                      (try simp only [Act.put, List.setIfInBounds_toArray, List.set_cons_zero, List.set_cons_succ])
                      refine wpAnyH_take (i := 17) (oi := { dst := some 76, op := Op.fieldAddr 28 (Operand.tmp 8) 0, type := 0, pos := "law.go:142", after := #[{ on := 0, ground := Ground.phase }, { on := 1, ground := Ground.phase }, { on := 2, ground := Ground.phase }, { on := 3, ground := Ground.phase }, { on := 4, ground := Ground.phase }, { on := 5, ground := Ground.phase }, { on := 6, ground := Ground.phase }, { on := 7, ground := Ground.phase }, { on := 8, ground := Ground.phase }, { on := 9, ground := Ground.phase }, { on := 10, ground := Ground.phase }, { on := 11, ground := Ground.phase }, { on := 12, ground := Ground.phase }, { on := 13, ground := Ground.phase }, { on := 14, ground := Ground.phase }, { on := 15, ground := Ground.phase }, { on := 16, ground := Ground.phase }], guard := none }) (v := ?_) rfl (by kernel_rfl) (by kernel_rfl) (by kernel_rfl) (fun _ _ _ h => h) (Or.inl ⟨by rfl, ?_⟩) (by assumption) ?_
                      rotate_left
                      · intro w hSw; (try dsimp only at hSw); go_simp <;> (with_reducible rfl)
                      (try simp only [Act.put, List.setIfInBounds_toArray, List.set_cons_zero, List.set_cons_succ])
                      refine wpAnyH_ready (rs := [18]) (by kernel_rfl) (by simp) ?_
                      refine AllReadyH.cons (o := { dst := none, op := Op.store 25 (Operand.tmp 76) (Operand.tmp 75), type := 0, pos := "law.go:142", after := #[{ on := 17, ground := Ground.data }, { on := 16, ground := Ground.data }, { on := 16, ground := Ground.chain }, { on := 0, ground := Ground.phase }, { on := 1, ground := Ground.phase }, { on := 2, ground := Ground.phase }, { on := 3, ground := Ground.phase }, { on := 4, ground := Ground.phase }, { on := 5, ground := Ground.phase }, { on := 6, ground := Ground.phase }, { on := 7, ground := Ground.phase }, { on := 8, ground := Ground.phase }, { on := 9, ground := Ground.phase }, { on := 10, ground := Ground.phase }, { on := 11, ground := Ground.phase }, { on := 12, ground := Ground.phase }, { on := 13, ground := Ground.phase }, { on := 14, ground := Ground.phase }, { on := 15, ground := Ground.phase }, { on := 16, ground := Ground.phase }], guard := none }) rfl (fun K hK => ?_) ?_
                      · go_simp
                        refine hK.out _ _ ?_ (fun hHeld => ?_)
                        · (try dsimp only)
                          exact KS.out _ T9b.out.a.b
                        clear hK K
                        (try simp only [Act.put, List.setIfInBounds_toArray, List.set_cons_zero, List.set_cons_succ])
                        refine wpAnyH_done (by kernel_rfl) ?_ _
                        refine NoPanic.normal ?_
                        have T10 := Lib.hid (show Tr2 w w1.heap.size w2.heap.size (.slice A8a l8a k8a) (D.take (k + 1)) (.slice none 0 0) [] (.slice A8b l8b k8b) ((D.take (k + 1)).map (tailD t)) (.slice none 0 0) [] _ by rw [KM.out, List.map_append]; exact T9b.out)
                        clear hHeld T9b B8b c8b f8b
                        go_wp2
                        go_roundw
                        case rel => exact ⟨k + 1, _, _, by go_num, by omega, T10, I9⟩
                        case measure => simp [intOf]; omega
                      exact AllReadyH.nil
                    exact AllReadyH.nil
                  exact AllReadyH.nil
                refine AllReadyH.cons (o := { dst := some 74, op := Op.buildSlice 25 1 #[(0, Operand.tmp 73)], type := 25, pos := "law.go:142", after := #[{ on := 14, ground := Ground.data }], guard := none }) rfl (fun K hK => ?_) ?_
                · go_simp
                  refine hK.out _ _ ?_ (fun hHeld => ?_)
                  · (try dsimp only)
                    exact KS.out _ T5.out.a.b
                  clear hK K
                  (try simp only [Act.put, List.setIfInBounds_toArray, List.set_cons_zero, List.set_cons_succ])
                  refine wpAnyH_ready (rs := [1]) (by kernel_rfl) (by simp) ?_
                  refine AllReadyH.cons (o := { dst := some 60, op := Op.load 25 (Operand.tmp 59), type := 25, pos := "law.go:142", after := #[{ on := 0, ground := Ground.data }], guard := none }) rfl (fun K hK => ?_) ?_
                  · go_simp
                    refine hK.out _ _ ?_ (fun hHeld => ?_)
                    · (try dsimp only)
                      first | exact KS.out _ BD2.out | exact KS.out _ T5.out.a.b
                    clear hK K
                    (try simp only [Act.put, List.setIfInBounds_toArray, List.set_cons_zero, List.set_cons_succ])
                    refine wpAnyH_ready (rs := [16]) (by kernel_rfl) (by simp) ?_
                    refine AllReadyH.cons (o := { dst := some 75, op := Op.call { callee := Callee.builtin Builtin.append, args := #[Operand.tmp 60, Operand.tmp 74], argTypes := #[25, 25] }, type := 25, pos := "law.go:142", after := #[{ on := 1, ground := Ground.data }, { on := 15, ground := Ground.data }], guard := none }) rfl (fun K hK => ?_) ?_
                    · refine app_dcO (.tmp 60) (.tmp 74) rfl T5.out.b.d rfl (s ++ t, z) w9.heap.size rfl Q5.out (by rw [List.length_map, List.length_take]; omega) T5.out.b.b.size ?_
                      intro v8b w8b O8 g8 n8 one8
                      obtain ⟨A8b, l8b, k8b, rfl⟩ : ∃ A n c, v8b = .slice A n c := by obtain ⟨A, c, e⟩ := own_form O8; exact ⟨A, _, c, e⟩
                      obtain ⟨T9b, c8b, f8b, B8b⟩ := T5.out.decb O8 g8 n8
                      have B8b := Lib.hid B8b
                      have T9b := Lib.hid T9b
                      clear O8 g8 n8 one8
                      refine hK.out _ _ ?_ (fun hHeld => ?_)
                      · (try dsimp only)
                        exact KS.out _ B8b.out
                      clear hK K
                      (try simp only [Act.put, List.setIfInBounds_toArray, List.set_cons_zero, List.set_cons_succ])
                      refine wpAnyH_take (i := 17) (oi := { dst := some 76, op := Op.fieldAddr 28 (Operand.tmp 8) 0, type := 0, pos := "law.go:142", after := #[{ on := 0, ground := Ground.phase }, { on := 1, ground := Ground.phase }, { on := 2, ground := Ground.phase }, { on := 3, ground := Ground.phase }, { on := 4, ground := Ground.phase }, { on := 5, ground := Ground.phase }, { on := 6, ground := Ground.phase }, { on := 7, ground := Ground.phase }, { on := 8, ground := Ground.phase }, { on := 9, ground := Ground.phase }, { on := 10, ground := Ground.phase }, { on := 11, ground := Ground.phase }, { on := 12, ground := Ground.phase }, { on := 13, ground := Ground.phase }, { on := 14, ground := Ground.phase }, { on := 15, ground := Ground.phase }, { on := 16, ground := Ground.phase }], guard := none }) (v := ?_) rfl (by kernel_rfl) (by kernel_rfl) (by kernel_rfl) (fun _ _ _ h => h) (Or.inl ⟨by rfl, ?_⟩) (by assumption) ?_
                      rotate_left
                      · intro w hSw; (try dsimp only at hSw); go_simp <;> (with_reducible rfl)
                      (try simp only [Act.put, List.setIfInBounds_toArray, List.set_cons_zero, List.set_cons_succ])
                      refine wpAnyH_ready (rs := [18]) (by kernel_rfl) (by simp) ?_
                      refine AllReadyH.cons (o := { dst := none, op := Op.store 25 (Operand.tmp 76) (Operand.tmp 75), type := 0, pos := "law.go:142", after := #[{ on := 17, ground := Ground.data }, { on := 16, ground := Ground.data }, { on := 16, ground := Ground.chain }, { on := 0, ground := Ground.phase }, { on := 1, ground := Ground.phase }, { on := 2, ground := Ground.phase }, { on := 3, ground := Ground.phase }, { on := 4, ground := Ground.phase }, { on := 5, ground := Ground.phase }, { on := 6, ground := Ground.phase }, { on := 7, ground := Ground.phase }, { on := 8, ground := Ground.phase }, { on := 9, ground := Ground.phase }, { on := 10, ground := Ground.phase }, { on := 11, ground := Ground.phase }, { on := 12, ground := Ground.phase }, { on := 13, ground := Ground.phase }, { on := 14, ground := Ground.phase }, { on := 15, ground := Ground.phase }, { on := 16, ground := Ground.phase }], guard := none }) rfl (fun K hK => ?_) ?_
                      · go_simp
                        refine hK.out _ _ ?_ (fun hHeld => ?_)
                        · (try dsimp only)
                          exact KS.out _ T9b.out.a.b
                        clear hK K
                        (try simp only [Act.put, List.setIfInBounds_toArray, List.set_cons_zero, List.set_cons_succ])
                        refine wpAnyH_done (by kernel_rfl) ?_ _
                        refine NoPanic.normal ?_
                        have T10 := Lib.hid (show Tr2 w w1.heap.size w2.heap.size (.slice A8a l8a k8a) (D.take (k + 1)) (.slice none 0 0) [] (.slice A8b l8b k8b) ((D.take (k + 1)).map (tailD t)) (.slice none 0 0) [] _ by rw [KM.out, List.map_append]; exact T9b.out)
                        clear hHeld T9b B8b c8b f8b
                        go_wp2
                        go_roundw
                        case rel => exact ⟨k + 1, _, _, by go_num, by omega, T10, I9⟩
                        case measure => simp [intOf]; omega
                      exact AllReadyH.nil
                    exact AllReadyH.nil
                  exact AllReadyH.nil
                exact AllReadyH.nil
              exact AllReadyH.nil
            exact AllReadyH.nil
          exact AllReadyH.nil
        refine AllReadyH.cons (o := { dst := some 56, op := Op.buildSlice 25 1 #[(0, Operand.tmp 55)], type := 25, pos := "law.go:141", after := #[{ on := 12, ground := Ground.data }], guard := none }) rfl (fun K hK => ?_) ?_
        · go_simp
          refine hK.out _ _ ?_ (fun hHeld => ?_)
          · (try dsimp only)
            exact KS.out _ T7.out.a.b
          clear hK K
          (try simp only [Act.put, List.setIfInBounds_toArray, List.set_cons_zero, List.set_cons_succ])
          refine wpAnyH_ready (rs := [1]) (by kernel_rfl) (by simp) ?_
          refine AllReadyH.cons (o := { dst := some 44, op := Op.load 25 (Operand.tmp 43), type := 25, pos := "law.go:141", after := #[{ on := 0, ground := Ground.data }], guard := none }) rfl (fun K hK => ?_) ?_
          · go_simp
            refine hK.out _ _ ?_ (fun hHeld => ?_)
            · (try dsimp only)
              first | exact KS.out _ BD.out | exact KS.out _ T7.out.a.b
            clear hK K
            (try simp only [Act.put, List.setIfInBounds_toArray, List.set_cons_zero, List.set_cons_succ])
            refine wpAnyH_ready (rs := [14]) (by kernel_rfl) (by simp) ?_
            refine AllReadyH.cons (o := { dst := some 57, op := Op.call { callee := Callee.builtin Builtin.append, args := #[Operand.tmp 44, Operand.tmp 56], argTypes := #[25, 25] }, type := 25, pos := "law.go:141", after := #[{ on := 1, ground := Ground.data }, { on := 13, ground := Ground.data }], guard := none }) rfl (fun K hK => ?_) ?_
            · refine app_dcO (.tmp 44) (.tmp 56) rfl T7.out.a.d rfl (s, z) wr.heap.size rfl Q7.out (by rw [List.length_take]; omega) T7.out.a.b.size ?_
              intro v8a w8a O8 g8 n8 one8
              obtain ⟨A8a, l8a, k8a, rfl⟩ : ∃ A n c, v8a = .slice A n c := by obtain ⟨A, c, e⟩ := own_form O8; exact ⟨A, _, c, e⟩
              obtain ⟨T9a, c8a, f8a, B8a⟩ := T7.out.deca O8 g8 n8
              have B8a := Lib.hid B8a
              have T9a := Lib.hid T9a
              clear O8 g8 n8 one8
              refine hK.out _ _ ?_ (fun hHeld => ?_)
              · (try dsimp only)
                exact KS.out _ B8a.out
              clear hK K
              (try simp only [Act.put, List.setIfInBounds_toArray, List.set_cons_zero, List.set_cons_succ])
              refine wpAnyH_take (i := 15) (oi := { dst := some 58, op := Op.fieldAddr 28 (Operand.tmp 7) 0, type := 0, pos := "law.go:141", after := #[{ on := 0, ground := Ground.phase }, { on := 1, ground := Ground.phase }, { on := 2, ground := Ground.phase }, { on := 3, ground := Ground.phase }, { on := 4, ground := Ground.phase }, { on := 5, ground := Ground.phase }, { on := 6, ground := Ground.phase }, { on := 7, ground := Ground.phase }, { on := 8, ground := Ground.phase }, { on := 9, ground := Ground.phase }, { on := 10, ground := Ground.phase }, { on := 11, ground := Ground.phase }, { on := 12, ground := Ground.phase }, { on := 13, ground := Ground.phase }, { on := 14, ground := Ground.phase }], guard := none }) (v := ?_) rfl (by kernel_rfl) (by kernel_rfl) (by kernel_rfl) (fun _ _ _ h => h) (Or.inl ⟨by rfl, ?_⟩) (by assumption) ?_
              rotate_left
              · intro w hSw; (try dsimp only at hSw); go_simp <;> (with_reducible rfl)
              (try simp only [Act.put, List.setIfInBounds_toArray, List.set_cons_zero, List.set_cons_succ])
              refine wpAnyH_ready (rs := [16]) (by kernel_rfl) (by simp) ?_
              refine AllReadyH.cons (o := { dst := none, op := Op.store 25 (Operand.tmp 58) (Operand.tmp 57), type := 0, pos := "law.go:141", after := #[{ on := 15, ground := Ground.data }, { on := 14, ground := Ground.data }, { on := 14, ground := Ground.chain }, { on := 0, ground := Ground.phase }, { on := 1, ground := Ground.phase }, { on := 2, ground := Ground.phase }, { on := 3, ground := Ground.phase }, { on := 4, ground := Ground.phase }, { on := 5, ground := Ground.phase }, { on := 6, ground := Ground.phase }, { on := 7, ground := Ground.phase }, { on := 8, ground := Ground.phase }, { on := 9, ground := Ground.phase }, { on := 10, ground := Ground.phase }, { on := 11, ground := Ground.phase }, { on := 12, ground := Ground.phase }, { on := 13, ground := Ground.phase }, { on := 14, ground := Ground.phase }], guard := none }) rfl (fun K hK => ?_) ?_
              · go_simp
                refine hK.out _ _ ?_ (fun hHeld => ?_)
                · (try dsimp only)
                  exact KS.out _ T9a.out.a.b
                clear hK K
                (try simp only [Act.put, List.setIfInBounds_toArray, List.set_cons_zero, List.set_cons_succ])
                refine wpAnyH_done (by kernel_rfl) ?_ _
                refine NoPanic.normal ?_
                generalize w8a.setCell ⟨w1.heap.size, 0, none⟩ (.slice A8a l8a k8a) = w9 at *
                clear hHeld B8a c8a f8a
                have BD2 := Lib.hid (below_drewP T9a.out.a.b)
                obtain ⟨W5, e5, T5, Q5⟩ : ∃ W5, w9.drew.alloc (.cells #[.string (strB s ++ tail), .int .i64 z] 31) = W5 ∧ Hid (Tr2 w w1.heap.size w2.heap.size (.slice A8a l8a k8a) (D.take k ++ [(s, z)]) (.slice none 0 0) [] (.slice Ab nb kb) ((D.take k).map (tailD t)) (.slice none 0 0) [] W5) ∧ Hid (HasB W5 w9.heap.size 31 [.string (strB (s ++ t)), .int .i64 z]) := ⟨_, rfl, Lib.hid (T9a.out.bel (bel_al (below_drewP (Below.refl _ w9)) _)), Lib.hid (by rw [HTL.out]; exact HasB.new w9.drew _ _)⟩
                have m0 := T9a.out.b.h.cell 0
                have m1 := T5.out.b.h.cell 0
                simp only [List.getElem?_cons_zero] at m0 m1
                go_wp2_with fail
                refine wp_region_noPanic ?_
                refine wp_region_held_drew (S := (fun w' => w'.cell? (x.add (k * 2)) = some (.string (strB s)) ∧ w'.cell? ⟨(x.add (k * 2)).block, (x.add (k * 2)).off + 1, none⟩ = some (.int .i64 z))) (by kernel_rfl) ?_ (fun hHeld => ?_)
                · (try dsimp only)
                  exact KS.out _ BD2.out
                refine wpAnyH_take (i := 0) (oi := { dst := some 59, op := Op.fieldAddr 28 (Operand.tmp 8) 0, type := 0, pos := "law.go:142", after := #[], guard := none }) (v := ?_) rfl (by kernel_rfl) (by kernel_rfl) (by kernel_rfl) (fun _ _ _ h => h) (Or.inl ⟨by rfl, ?_⟩) (by assumption) ?_
                rotate_left
                · intro w hSw; (try dsimp only at hSw); go_simp <;> (with_reducible rfl)
                (try simp only [Act.put, List.setIfInBounds_toArray, List.set_cons_zero, List.set_cons_succ])
                refine wpAnyH_take (i := 2) (oi := { dst := some 61, op := Op.move (Operand.tmp 0), type := 22, pos := "law.go:142", after := #[], guard := none }) (v := ?_) rfl (by kernel_rfl) (by kernel_rfl) (by kernel_rfl) (fun _ _ _ h => h) (Or.inl ⟨by rfl, ?_⟩) (by assumption) ?_
                rotate_left
                · intro w hSw; (try dsimp only at hSw); go_simp <;> (with_reducible rfl)
                (try simp only [Act.put, List.setIfInBounds_toArray, List.set_cons_zero, List.set_cons_succ])
                refine wpAnyH_take (i := 3) (oi := { dst := some 62, op := Op.move (Operand.tmp 9), type := 3, pos := "law.go:142", after := #[], guard := none }) (v := ?_) rfl (by kernel_rfl) (by kernel_rfl) (by kernel_rfl) (fun _ _ _ h => h) (Or.inl ⟨by rfl, ?_⟩) (by assumption) ?_
                rotate_left
                · intro w hSw; (try dsimp only at hSw); go_simp <;> (with_reducible rfl)
                (try simp only [Act.put, List.setIfInBounds_toArray, List.set_cons_zero, List.set_cons_succ])
                refine wpAnyH_take (i := 4) (oi := { dst := some 63, op := Op.indexAddr 22 (Operand.tmp 61) (Operand.tmp 62), type := 0, pos := "law.go:142", after := #[{ on := 2, ground := Ground.data }, { on := 3, ground := Ground.data }], guard := none }) (v := ?_) rfl (by kernel_rfl) (by kernel_rfl) (by kernel_rfl) (fun _ _ _ h => h) (Or.inl ⟨by rfl, ?_⟩) (by assumption) ?_
                rotate_left
                · intro w hSw; (try dsimp only at hSw); go_simp <;> (with_reducible rfl)
                (try simp only [Act.put, List.setIfInBounds_toArray, List.set_cons_zero, List.set_cons_succ])
                refine wpAnyH_take (i := 5) (oi := { dst := some 64, op := Op.fieldAddr 30 (Operand.tmp 63) 0, type := 0, pos := "law.go:142", after := #[{ on := 4, ground := Ground.data }], guard := none }) (v := ?_) rfl (by kernel_rfl) (by kernel_rfl) (by kernel_rfl) (fun _ _ _ h => h) (Or.inl ⟨by rfl, ?_⟩) (by assumption) ?_
                rotate_left
                · intro w hSw; (try dsimp only at hSw); go_simp <;> (with_reducible rfl)
                (try simp only [Act.put, List.setIfInBounds_toArray, List.set_cons_zero, List.set_cons_succ])
                refine wpAnyH_take (i := 6) (oi := { dst := some 65, op := Op.load 9 (Operand.tmp 64), type := 9, pos := "law.go:142", after := #[{ on := 5, ground := Ground.data }], guard := none }) (v := ?_) rfl (by kernel_rfl) (by kernel_rfl) (by kernel_rfl) (fun _ _ _ h => h) (Or.inl ⟨by rfl, ?_⟩) (by assumption) ?_
                rotate_left
                · intro w hSw; (try dsimp only at hSw); go_simp <;> (with_reducible rfl)
                (try simp only [Act.put, List.setIfInBounds_toArray, List.set_cons_zero, List.set_cons_succ])
                refine wpAnyH_take (i := 7) (oi := { dst := some 66, op := Op.move (Operand.tmp 2), type := 9, pos := "law.go:142", after := #[], guard := none }) (v := ?_) rfl (by kernel_rfl) (by kernel_rfl) (by kernel_rfl) (fun _ _ _ h => h) (Or.inl ⟨by rfl, ?_⟩) (by assumption) ?_
                rotate_left
                · intro w hSw; (try dsimp only at hSw); go_simp <;> (with_reducible rfl)
                (try simp only [Act.put, List.setIfInBounds_toArray, List.set_cons_zero, List.set_cons_succ])
                refine wpAnyH_take (i := 8) (oi := { dst := some 67, op := Op.binOp BinOp.add 9 (Operand.tmp 65) (Operand.tmp 66) 9, type := 9, pos := "law.go:142", after := #[{ on := 6, ground := Ground.data }, { on := 7, ground := Ground.data }], guard := none }) (v := ?_) rfl (by kernel_rfl) (by kernel_rfl) (by kernel_rfl) (fun _ _ _ h => h) (Or.inl ⟨by rfl, ?_⟩) (by assumption) ?_
                rotate_left
                · intro w hSw; (try dsimp only at hSw); go_simp <;> (with_reducible rfl)
                (try simp only [Act.put, List.setIfInBounds_toArray, List.set_cons_zero, List.set_cons_succ])
                refine wpAnyH_take (i := 9) (oi := { dst := some 68, op := Op.move (Operand.tmp 0), type := 22, pos := "law.go:142", after := #[], guard := none }) (v := ?_) rfl (by kernel_rfl) (by kernel_rfl) (by kernel_rfl) (fun _ _ _ h => h) (Or.inl ⟨by rfl, ?_⟩) (by assumption) ?_
                rotate_left
                · intro w hSw; (try dsimp only at hSw); go_simp <;> (with_reducible rfl)
                (try simp only [Act.put, List.setIfInBounds_toArray, List.set_cons_zero, List.set_cons_succ])
                refine wpAnyH_take (i := 10) (oi := { dst := some 69, op := Op.move (Operand.tmp 9), type := 3, pos := "law.go:142", after := #[], guard := none }) (v := ?_) rfl (by kernel_rfl) (by kernel_rfl) (by kernel_rfl) (fun _ _ _ h => h) (Or.inl ⟨by rfl, ?_⟩) (by assumption) ?_
                rotate_left
                · intro w hSw; (try dsimp only at hSw); go_simp <;> (with_reducible rfl)
                (try simp only [Act.put, List.setIfInBounds_toArray, List.set_cons_zero, List.set_cons_succ])
                refine wpAnyH_take (i := 11) (oi := { dst := some 70, op := Op.indexAddr 22 (Operand.tmp 68) (Operand.tmp 69), type := 0, pos := "law.go:142", after := #[{ on := 9, ground := Ground.data }, { on := 10, ground := Ground.data }], guard := none }) (v := ?_) rfl (by kernel_rfl) (by kernel_rfl) (by kernel_rfl) (fun _ _ _ h => h) (Or.inl ⟨by rfl, ?_⟩) (by assumption) ?_
                rotate_left
                · intro w hSw; (try dsimp only at hSw); go_simp <;> (with_reducible rfl)
                (try simp only [Act.put, List.setIfInBounds_toArray, List.set_cons_zero, List.set_cons_succ])
                refine wpAnyH_take (i := 12) (oi := { dst := some 71, op := Op.fieldAddr 30 (Operand.tmp 70) 1, type := 0, pos := "law.go:142", after := #[{ on := 11, ground := Ground.data }], guard := none }) (v := ?_) rfl (by kernel_rfl) (by kernel_rfl) (by kernel_rfl) (fun _ _ _ h => h) (Or.inl ⟨by rfl, ?_⟩) (by assumption) ?_
                rotate_left
                · intro w hSw; (try dsimp only at hSw); go_simp <;> (with_reducible rfl)
                (try simp only [Act.put, List.setIfInBounds_toArray, List.set_cons_zero, List.set_cons_succ])
                refine wpAnyH_take (i := 13) (oi := { dst := some 72, op := Op.load 3 (Operand.tmp 71), type := 3, pos := "law.go:142", after := #[{ on := 12, ground := Ground.data }], guard := none }) (v := ?_) rfl (by kernel_rfl) (by kernel_rfl) (by kernel_rfl) (fun _ _ _ h => h) (Or.inl ⟨by rfl, ?_⟩) (by assumption) ?_
                rotate_left
                · intro w hSw; (try dsimp only at hSw); go_simp <;> (with_reducible rfl)
                (try simp only [Act.put, List.setIfInBounds_toArray, List.set_cons_zero, List.set_cons_succ])
                refine wpAnyH_take (i := 14) (oi := { dst := some 73, op := Op.build 31 #[(0, Operand.tmp 67), (1, Operand.tmp 72)], type := 31, pos := "law.go:142", after := #[{ on := 8, ground := Ground.data }, { on := 13, ground := Ground.data }], guard := none }) (v := ?_) rfl (by kernel_rfl) (by kernel_rfl) (by kernel_rfl) (fun _ _ _ h => h) (Or.inl ⟨by rfl, ?_⟩) (by assumption) ?_
                rotate_left
                · intro w hSw; (try dsimp only at hSw); go_simp <;> (with_reducible rfl)
                (try simp only [Act.put, List.setIfInBounds_toArray, List.set_cons_zero, List.set_cons_succ])
                refine wpAnyH_ready (rs := [1, 15]) (by kernel_rfl) (by simp) ?_
                refine AllReadyH.cons (o := { dst := some 60, op := Op.load 25 (Operand.tmp 59), type := 25, pos := "law.go:142", after := #[{ on := 0, ground := Ground.data }], guard := none }) rfl (fun K hK => ?_) ?_
                · go_simp
                  refine hK.out _ _ ?_ (fun hHeld => ?_)
                  · (try dsimp only)
                    first | exact KS.out _ BD2.out | exact KS.out _ T5.out.a.b
                  clear hK K
                  (try simp only [Act.put, List.setIfInBounds_toArray, List.set_cons_zero, List.set_cons_succ])
                  refine wpAnyH_ready (rs := [15]) (by kernel_rfl) (by simp) ?_
                  refine AllReadyH.cons (o := { dst := some 74, op := Op.buildSlice 25 1 #[(0, Operand.tmp 73)], type := 25, pos := "law.go:142", after := #[{ on := 14, ground := Ground.data }], guard := none }) rfl (fun K hK => ?_) ?_
                  · go_simp
                    refine hK.out _ _ ?_ (fun hHeld => ?_)
                    · (try dsimp only)
                      exact KS.out _ T5.out.a.b
                    clear hK K
                    (try simp only [Act.put, List.setIfInBounds_toArray, List.set_cons_zero, List.set_cons_succ])
                    refine wpAnyH_ready (rs := [16]) (by kernel_rfl) (by simp) ?_
                    refine AllReadyH.cons (o := { dst := some 75, op := Op.call { callee := Callee.builtin Builtin.append, args := #[Operand.tmp 60, Operand.tmp 74], argTypes := #[25, 25] }, type := 25, pos := "law.go:142", after := #[{ on := 1, ground := Ground.data }, { on := 15, ground := Ground.data }], guard := none }) rfl (fun K hK => ?_) ?_
                    · refine app_dcO (.tmp 60) (.tmp 74) rfl T5.out.b.d rfl (s ++ t, z) w9.heap.size rfl Q5.out (by rw [List.length_map, List.length_take]; omega) T5.out.b.b.size ?_
                      intro v8b w8b O8 g8 n8 one8
                      obtain ⟨A8b, l8b, k8b, rfl⟩ : ∃ A n c, v8b = .slice A n c := by obtain ⟨A, c, e⟩ := own_form O8; exact ⟨A, _, c, e⟩
                      obtain ⟨T9b, c8b, f8b, B8b⟩ := T5.out.decb O8 g8 n8
                      have B8b := Lib.hid B8b
                      have T9b := Lib.hid T9b
                      clear O8 g8 n8 one8
                      refine hK.out _ _ ?_ (fun hHeld => ?_)
                      · (try dsimp only)
                        exact KS.out _ B8b.out
                      clear hK K
                      (try simp only [Act.put, List.setIfInBounds_toArray, List.set_cons_zero, List.set_cons_succ])
                      refine wpAnyH_take (i := 17) (oi := { dst := some 76, op := Op.fieldAddr 28 (Operand.tmp 8) 0, type := 0, pos := "law.go:142", after := #[{ on := 0, ground := Ground.phase }, { on := 1, ground := Ground.phase }, { on := 2, ground := Ground.phase }, { on := 3, ground := Ground.phase }, { on := 4, ground := Ground.phase }, { on := 5, ground := Ground.phase }, { on := 6, ground := Ground.phase }, { on := 7, ground := Ground.phase }, { on := 8, ground := Ground.phase }, { on := 9, ground := Ground.phase }, { on := 10, ground := Ground.phase }, { on := 11, ground := Ground.phase }, { on := 12, ground := Ground.phase }, { on := 13, ground := Ground.phase }, { on := 14, ground := Ground.phase }, { on := 15, ground := Ground.phase }, { on := 16, ground := Ground.phase }], guard := none }) (v := ?_) rfl (by kernel_rfl) (by kernel_rfl) (by kernel_rfl) (fun _ _ _ h => h) (Or.inl ⟨by rfl, ?_⟩) (by assumption) ?_
                      rotate_left
                      · intro w hSw; (try dsimp only at hSw); go_simp <;> (with_reducible rfl)
                      (try simp only [Act.put, List.setIfInBounds_toArray, List.set_cons_zero, List.set_cons_succ])
                      refine wpAnyH_ready (rs := [18]) (by kernel_rfl) (by simp) ?_
                      refine AllReadyH.cons (o := { dst := none, op := Op.store 25 (Operand.tmp 76) (Operand.tmp 75), type := 0, pos := "law.go:142", after := #[{ on := 17, ground := Ground.data }, { on := 16, ground := Ground.data }, { on := 16, ground := Ground.chain }, { on := 0, ground := Ground.phase }, { on := 1, ground := Ground.phase }, { on := 2, ground := Ground.phase }, { on := 3, ground := Ground.phase }, { on := 4, ground := Ground.phase }, { on := 5, ground := Ground.phase }, { on := 6, ground := Ground.phase }, { on := 7, ground := Ground.phase }, { on := 8, ground := Ground.phase }, { on := 9, ground := Ground.phase }, { on := 10, ground := Ground.phase }, { on := 11, ground := Ground.phase }, { on := 12, ground := Ground.phase }, { on := 13, ground := Ground.phase }, { on := 14, ground := Ground.phase }, { on := 15, ground := Ground.phase }, { on := 16, ground := Ground.phase }], guard := none }) rfl (fun K hK => ?_) ?_
                      · go_simp
                        refine hK.out _ _ ?_ (fun hHeld => ?_)
                        · (try dsimp only)
                          exact KS.out _ T9b.out.a.b
                        clear hK K
                        (try simp only [Act.put, List.setIfInBounds_toArray, List.set_cons_zero, List.set_cons_succ])
                        refine wpAnyH_done (by kernel_rfl) ?_ _
                        refine NoPanic.normal ?_
                        have T10 := Lib.hid (show Tr2 w w1.heap.size w2.heap.size (.slice A8a l8a k8a) (D.take (k + 1)) (.slice none 0 0) [] (.slice A8b l8b k8b) ((D.take (k + 1)).map (tailD t)) (.slice none 0 0) [] _ by rw [KM.out, List.map_append]; exact T9b.out)
                        clear hHeld T9b B8b c8b f8b
                        go_wp2
                        go_roundw
                        case rel => exact ⟨k + 1, _, _, by go_num, by omega, T10, I9⟩
                        case measure => simp [intOf]; omega
                      exact AllReadyH.nil
                    exact AllReadyH.nil
                  exact AllReadyH.nil
                refine AllReadyH.cons (o := { dst := some 74, op := Op.buildSlice 25 1 #[(0, Operand.tmp 73)], type := 25, pos := "law.go:142", after := #[{ on := 14, ground := Ground.data }], guard := none }) rfl (fun K hK => ?_) ?_
                · go_simp
                  refine hK.out _ _ ?_ (fun hHeld => ?_)
                  · (try dsimp only)
                    exact KS.out _ T5.out.a.b
                  clear hK K
                  (try simp only [Act.put, List.setIfInBounds_toArray, List.set_cons_zero, List.set_cons_succ])
                  refine wpAnyH_ready (rs := [1]) (by kernel_rfl) (by simp) ?_
                  refine AllReadyH.cons (o := { dst := some 60, op := Op.load 25 (Operand.tmp 59), type := 25, pos := "law.go:142", after := #[{ on := 0, ground := Ground.data }], guard := none }) rfl (fun K hK => ?_) ?_
                  · go_simp
                    refine hK.out _ _ ?_ (fun hHeld => ?_)
                    · (try dsimp only)
                      first | exact KS.out _ BD2.out | exact KS.out _ T5.out.a.b
                    clear hK K
                    (try simp only [Act.put, List.setIfInBounds_toArray, List.set_cons_zero, List.set_cons_succ])
                    refine wpAnyH_ready (rs := [16]) (by kernel_rfl) (by simp) ?_
                    refine AllReadyH.cons (o := { dst := some 75, op := Op.call { callee := Callee.builtin Builtin.append, args := #[Operand.tmp 60, Operand.tmp 74], argTypes := #[25, 25] }, type := 25, pos := "law.go:142", after := #[{ on := 1, ground := Ground.data }, { on := 15, ground := Ground.data }], guard := none }) rfl (fun K hK => ?_) ?_
                    · refine app_dcO (.tmp 60) (.tmp 74) rfl T5.out.b.d rfl (s ++ t, z) w9.heap.size rfl Q5.out (by rw [List.length_map, List.length_take]; omega) T5.out.b.b.size ?_
                      intro v8b w8b O8 g8 n8 one8
                      obtain ⟨A8b, l8b, k8b, rfl⟩ : ∃ A n c, v8b = .slice A n c := by obtain ⟨A, c, e⟩ := own_form O8; exact ⟨A, _, c, e⟩
                      obtain ⟨T9b, c8b, f8b, B8b⟩ := T5.out.decb O8 g8 n8
                      have B8b := Lib.hid B8b
                      have T9b := Lib.hid T9b
                      clear O8 g8 n8 one8
                      refine hK.out _ _ ?_ (fun hHeld => ?_)
                      · (try dsimp only)
                        exact KS.out _ B8b.out
                      clear hK K
                      (try simp only [Act.put, List.setIfInBounds_toArray, List.set_cons_zero, List.set_cons_succ])
                      refine wpAnyH_take (i := 17) (oi := { dst := some 76, op := Op.fieldAddr 28 (Operand.tmp 8) 0, type := 0, pos := "law.go:142", after := #[{ on := 0, ground := Ground.phase }, { on := 1, ground := Ground.phase }, { on := 2, ground := Ground.phase }, { on := 3, ground := Ground.phase }, { on := 4, ground := Ground.phase }, { on := 5, ground := Ground.phase }, { on := 6, ground := Ground.phase }, { on := 7, ground := Ground.phase }, { on := 8, ground := Ground.phase }, { on := 9, ground := Ground.phase }, { on := 10, ground := Ground.phase }, { on := 11, ground := Ground.phase }, { on := 12, ground := Ground.phase }, { on := 13, ground := Ground.phase }, { on := 14, ground := Ground.phase }, { on := 15, ground := Ground.phase }, { on := 16, ground := Ground.phase }], guard := none }) (v := ?_) rfl (by kernel_rfl) (by kernel_rfl) (by kernel_rfl) (fun _ _ _ h => h) (Or.inl ⟨by rfl, ?_⟩) (by assumption) ?_
                      rotate_left
                      · intro w hSw; (try dsimp only at hSw); go_simp <;> (with_reducible rfl)
                      (try simp only [Act.put, List.setIfInBounds_toArray, List.set_cons_zero, List.set_cons_succ])
                      refine wpAnyH_ready (rs := [18]) (by kernel_rfl) (by simp) ?_
                      refine AllReadyH.cons (o := { dst := none, op := Op.store 25 (Operand.tmp 76) (Operand.tmp 75), type := 0, pos := "law.go:142", after := #[{ on := 17, ground := Ground.data }, { on := 16, ground := Ground.data }, { on := 16, ground := Ground.chain }, { on := 0, ground := Ground.phase }, { on := 1, ground := Ground.phase }, { on := 2, ground := Ground.phase }, { on := 3, ground := Ground.phase }, { on := 4, ground := Ground.phase }, { on := 5, ground := Ground.phase }, { on := 6, ground := Ground.phase }, { on := 7, ground := Ground.phase }, { on := 8, ground := Ground.phase }, { on := 9, ground := Ground.phase }, { on := 10, ground := Ground.phase }, { on := 11, ground := Ground.phase }, { on := 12, ground := Ground.phase }, { on := 13, ground := Ground.phase }, { on := 14, ground := Ground.phase }, { on := 15, ground := Ground.phase }, { on := 16, ground := Ground.phase }], guard := none }) rfl (fun K hK => ?_) ?_
                      · go_simp
                        refine hK.out _ _ ?_ (fun hHeld => ?_)
                        · (try dsimp only)
                          exact KS.out _ T9b.out.a.b
                        clear hK K
                        (try simp only [Act.put, List.setIfInBounds_toArray, List.set_cons_zero, List.set_cons_succ])
                        refine wpAnyH_done (by kernel_rfl) ?_ _
                        refine NoPanic.normal ?_
                        have T10 := Lib.hid (show Tr2 w w1.heap.size w2.heap.size (.slice A8a l8a k8a) (D.take (k + 1)) (.slice none 0 0) [] (.slice A8b l8b k8b) ((D.take (k + 1)).map (tailD t)) (.slice none 0 0) [] _ by rw [KM.out, List.map_append]; exact T9b.out)
                        clear hHeld T9b B8b c8b f8b
                        go_wp2
                        go_roundw
                        case rel => exact ⟨k + 1, _, _, by go_num, by omega, T10, I9⟩
                        case measure => simp [intOf]; omega
                      exact AllReadyH.nil
                    exact AllReadyH.nil
                  exact AllReadyH.nil
                exact AllReadyH.nil
              exact AllReadyH.nil
            exact AllReadyH.nil
          exact AllReadyH.nil
        exact AllReadyH.nil
    · obtain rfl : k = n := by omega
      have HE : Hid (D.take k = D) := Lib.hid (List.take_of_length_le (by rw [HN.out]; exact Nat.le_refl _))
      have HS : Hid (∀ d ∈ D, d.1.length ≤ 20) := Lib.hid (by have := HI.out; rwa [HE.out] at this)
      have HT2 : Hid (Tr2 w w1.heap.size w2.heap.size dva D (.slice none 0 0) [] dvb (D.map (tailD t)) (.slice none 0 0) [] wr) := Lib.hid (by have := HT.out; rwa [HE.out] at this)
      obtain ⟨Ad, nd, kd, hdv⟩ : ∃ A n c, dva = .slice A n c := by obtain ⟨A, c, e⟩ := own_form HT2.out.a.d; exact ⟨A, _, c, e⟩
      subst hdv
      obtain ⟨Ae, ne, ke, hdv⟩ : ∃ A n c, dvb = .slice A n c := by obtain ⟨A, c, e⟩ := own_form HT2.out.b.d; exact ⟨A, _, c, e⟩
      subst hdv
      clear HT HI HE
      go_wp2
      go_loopw [10] (fun i wd => ∃ (p : Nat) (nva nvb : Value), i = .int .i64 p ∧ p ≤ m ∧ Hid (Tr2 w w1.heap.size w2.heap.size (.slice Ad nd kd) D nva ((U.take p).map kdV) (.slice Ae ne ke) (D.map (tailD t)) nvb ((U.take p).map (kdW t)) wd)) (fun i _ => m - (intOf i).toNat)
      case atStart => exact ⟨0, _, _, rfl, Nat.zero_le _, HT2⟩
      case round =>
        obtain ⟨p, nva, nvb, rfl, hp, HT⟩ := hrel
        clear HT2
        obtain ⟨An, nn, kn, hnv⟩ : ∃ A n c, nva = .slice A n c := by obtain ⟨A, c, e⟩ := own_form HT.out.a.n; exact ⟨A, _, c, e⟩
        subst hnv
        obtain ⟨Af, nf, kf, hnv⟩ : ∃ A n c, nvb = .slice A n c := by obtain ⟨A, c, e⟩ := own_form HT.out.b.n; exact ⟨A, _, c, e⟩
        subst hnv
        by_cases hlt2 : p < m
        · obtain ⟨y, rfl, hyb, hc⟩ := RU.out.2.2 (by rw [HM.out]; omega)
          have CW := Lib.hid (fun (W : World) (b : Below w.heap.size w W) => (⟨(b.cell (by rw [block_add]; exact hyb)).trans (hc p (by rw [HM.out]; exact hlt2)).1, (b.cell (p := ⟨(y.add (p * 2)).block, (y.add (p * 2)).off + 1, none⟩) (by show (y.add (p * 2)).block < _; rw [block_add]; exact hyb)).trans (hc p (by rw [HM.out]; exact hlt2)).2⟩ : W.cell? (y.add (p * 2)) = some (.string (strB (U.getD p us0).2)) ∧ W.cell? ⟨(y.add (p * 2)).block, (y.add (p * 2)).off + 1, none⟩ = some (.bool (U.getD p us0).1)))
          have KM := Lib.hid (take_snocD U p us0 (by rw [HM.out]; exact hlt2))
          clear hc hyb
          generalize U.getD p us0 = u at *
          obtain ⟨ub, s⟩ := u
          simp only at CW
          obtain ⟨c0, c1⟩ := CW.out wr HT.out.a.b
          have hpi : (p : Int) < (m : Int) := by omega
          by_cases h20 : 20 < (strB s).size
          · have h20i : (20 : Int) < ((strB s).size : Int) := by omega
            go_wp2
            go_ret
            exact ⟨rfl, HT.out.a.b⟩
          · have h20i : ¬ (20 : Int) < ((strB s).size : Int) := by omega
            have hs20 : (strB s).size ≤ 20 := by omega
            have hcat : ¬ 9223372036854775807 < (strB s).size + tail.size := by omega
            have BD := Lib.hid (below_drewP HT.out.a.b)
            have t0 := HT.out.a.h.cell 1
            simp only [List.getElem?_cons_zero, List.getElem?_cons_succ] at t0
            have KS := Lib.hid (fun (w' : World) (b : Below w.heap.size w w') => (show (fun w' => w'.cell? (y.add (p * 2)) = some (.string (strB s)) ∧ w'.cell? ⟨(y.add (p * 2)).block, (y.add (p * 2)).off + 1, none⟩ = some (.bool ub)) w' from CW.out w' b))
            cases ub with
            | true =>
              obtain ⟨W7, e7, T7, Q7⟩ : ∃ W7, wr.drew.alloc (.cells #[.int .i64 8, .int .i64 0, .int .i64 0, .int .i64 0, .string (strB s), .int .u32 0, .slice none 0 0] 37) = W7 ∧ Hid (Tr2 w w1.heap.size w2.heap.size (.slice Ad nd kd) D (.slice An nn kn) ((U.take p).map kdV) (.slice Ae ne ke) (D.map (tailD t)) (.slice Af nf kf) ((U.take p).map (kdW t)) W7) ∧ Hid (HasB W7 wr.heap.size 37 (ndP (ndK 8 s))) := ⟨_, rfl, Lib.hid (HT.out.bel (bel_al (below_drewP (Below.refl _ wr)) _)), Lib.hid (HasB.new wr.drew _ _)⟩
              have u0 := T7.out.a.h.cell 1
              simp only [List.getElem?_cons_zero, List.getElem?_cons_succ] at u0
              go_wp2_with fail
              refine wp_region_noPanic ?_
              refine wp_region_held_drew (S := (fun w' => w'.cell? (y.add (p * 2)) = some (.string (strB s)) ∧ w'.cell? ⟨(y.add (p * 2)).block, (y.add (p * 2)).off + 1, none⟩ = some (.bool true))) (by kernel_rfl) ?_ (fun hHeld => ?_)
              · (try dsimp only)
                exact KS.out _ BD.out
              refine wpAnyH_take (i := 0) (oi := { dst := some 95, op := Op.fieldAddr 28 (Operand.tmp 7) 1, type := 0, pos := "law.go:152", after := #[], guard := none }) (v := ?_) rfl (by kernel_rfl) (by kernel_rfl) (by kernel_rfl) (fun _ _ _ h => h) (Or.inl ⟨by rfl, ?_⟩) (by assumption) ?_
              rotate_left
              · intro w hSw; (try dsimp only at hSw); go_simp <;> (with_reducible rfl)
              (try simp only [Act.put, List.setIfInBounds_toArray, List.set_cons_zero, List.set_cons_succ])
              refine wpAnyH_take (i := 2) (oi := { dst := some 97, op := Op.move (Operand.tmp 11), type := 3, pos := "law.go:152", after := #[], guard := none }) (v := ?_) rfl (by kernel_rfl) (by kernel_rfl) (by kernel_rfl) (fun _ _ _ h => h) (Or.inl ⟨by rfl, ?_⟩) (by assumption) ?_
              rotate_left
              · intro w hSw; (try dsimp only at hSw); go_simp <;> (with_reducible rfl)
              (try simp only [Act.put, List.setIfInBounds_toArray, List.set_cons_zero, List.set_cons_succ])
              refine wpAnyH_take (i := 3) (oi := { dst := some 98, op := Op.move (Operand.tmp 1), type := 23, pos := "law.go:152", after := #[], guard := none }) (v := ?_) rfl (by kernel_rfl) (by kernel_rfl) (by kernel_rfl) (fun _ _ _ h => h) (Or.inl ⟨by rfl, ?_⟩) (by assumption) ?_
              rotate_left
              · intro w hSw; (try dsimp only at hSw); go_simp <;> (with_reducible rfl)
              (try simp only [Act.put, List.setIfInBounds_toArray, List.set_cons_zero, List.set_cons_succ])
              refine wpAnyH_take (i := 4) (oi := { dst := some 99, op := Op.move (Operand.tmp 10), type := 3, pos := "law.go:152", after := #[], guard := none }) (v := ?_) rfl (by kernel_rfl) (by kernel_rfl) (by kernel_rfl) (fun _ _ _ h => h) (Or.inl ⟨by rfl, ?_⟩) (by assumption) ?_
              rotate_left
              · intro w hSw; (try dsimp only at hSw); go_simp <;> (with_reducible rfl)
              (try simp only [Act.put, List.setIfInBounds_toArray, List.set_cons_zero, List.set_cons_succ])
              refine wpAnyH_take (i := 5) (oi := { dst := some 100, op := Op.indexAddr 23 (Operand.tmp 98) (Operand.tmp 99), type := 0, pos := "law.go:152", after := #[{ on := 3, ground := Ground.data }, { on := 4, ground := Ground.data }], guard := none }) (v := ?_) rfl (by kernel_rfl) (by kernel_rfl) (by kernel_rfl) (fun _ _ _ h => h) (Or.inl ⟨by rfl, ?_⟩) (by assumption) ?_
              rotate_left
              · intro w hSw; (try dsimp only at hSw); go_simp <;> (with_reducible rfl)
              (try simp only [Act.put, List.setIfInBounds_toArray, List.set_cons_zero, List.set_cons_succ])
              refine wpAnyH_take (i := 6) (oi := { dst := some 101, op := Op.fieldAddr 33 (Operand.tmp 100) 0, type := 0, pos := "law.go:152", after := #[{ on := 5, ground := Ground.data }], guard := none }) (v := ?_) rfl (by kernel_rfl) (by kernel_rfl) (by kernel_rfl) (fun _ _ _ h => h) (Or.inl ⟨by rfl, ?_⟩) (by assumption) ?_
              rotate_left
              · intro w hSw; (try dsimp only at hSw); go_simp <;> (with_reducible rfl)
              (try simp only [Act.put, List.setIfInBounds_toArray, List.set_cons_zero, List.set_cons_succ])
              refine wpAnyH_take (i := 7) (oi := { dst := some 102, op := Op.load 9 (Operand.tmp 101), type := 9, pos := "law.go:152", after := #[{ on := 6, ground := Ground.data }], guard := none }) (v := ?_) rfl (by kernel_rfl) (by kernel_rfl) (by kernel_rfl) (fun _ _ _ h => h) (Or.inl ⟨by rfl, ?_⟩) (by assumption) ?_
              rotate_left
              · intro w hSw; (try dsimp only at hSw); go_simp <;> (with_reducible rfl)
              (try simp only [Act.put, List.setIfInBounds_toArray, List.set_cons_zero, List.set_cons_succ])
              refine wpAnyH_take (i := 8) (oi := { dst := some 103, op := Op.build 37 #[(0, Operand.tmp 97), (4, Operand.tmp 102)], type := 37, pos := "law.go:152", after := #[{ on := 2, ground := Ground.data }, { on := 7, ground := Ground.data }], guard := none }) (v := ?_) rfl (by kernel_rfl) (by kernel_rfl) (by kernel_rfl) (fun _ _ _ h => h) (Or.inl ⟨by rfl, ?_⟩) (by assumption) ?_
              rotate_left
              · intro w hSw; (try dsimp only at hSw); go_simp <;> (with_reducible rfl)
              (try simp only [Act.put, List.setIfInBounds_toArray, List.set_cons_zero, List.set_cons_succ])
              refine wpAnyH_ready (rs := [1, 9]) (by kernel_rfl) (by simp) ?_
              refine AllReadyH.cons (o := { dst := some 96, op := Op.load 26 (Operand.tmp 95), type := 26, pos := "law.go:152", after := #[{ on := 0, ground := Ground.data }], guard := none }) rfl (fun K hK => ?_) ?_
              · go_simp
                refine hK.out _ _ ?_ (fun hHeld => ?_)
                · (try dsimp only)
                  first | exact KS.out _ BD.out | exact KS.out _ T7.out.a.b
                clear hK K
                (try simp only [Act.put, List.setIfInBounds_toArray, List.set_cons_zero, List.set_cons_succ])
                refine wpAnyH_ready (rs := [9]) (by kernel_rfl) (by simp) ?_
                refine AllReadyH.cons (o := { dst := some 104, op := Op.buildSlice 26 1 #[(0, Operand.tmp 103)], type := 26, pos := "law.go:152", after := #[{ on := 8, ground := Ground.data }], guard := none }) rfl (fun K hK => ?_) ?_
                · go_simp
                  refine hK.out _ _ ?_ (fun hHeld => ?_)
                  · (try dsimp only)
                    exact KS.out _ T7.out.a.b
                  clear hK K
                  (try simp only [Act.put, List.setIfInBounds_toArray, List.set_cons_zero, List.set_cons_succ])
                  refine wpAnyH_ready (rs := [10]) (by kernel_rfl) (by simp) ?_
                  refine AllReadyH.cons (o := { dst := some 105, op := Op.call { callee := Callee.builtin Builtin.append, args := #[Operand.tmp 96, Operand.tmp 104], argTypes := #[26, 26] }, type := 26, pos := "law.go:152", after := #[{ on := 1, ground := Ground.data }, { on := 9, ground := Ground.data }], guard := none }) rfl (fun K hK => ?_) ?_
                  · refine app_ndO (.tmp 96) (.tmp 104) rfl T7.out.a.n rfl (ndK 8 s) rfl wr.heap.size rfl Q7.out (by rw [List.length_map, List.length_take]; omega) T7.out.a.b.size ?_
                    intro v8a w8a O8 g8 n8 one8
                    obtain ⟨A8a, l8a, k8a, rfl⟩ : ∃ A n c, v8a = .slice A n c := by obtain ⟨A, c, e⟩ := own_form O8; exact ⟨A, _, c, e⟩
                    obtain ⟨T9a, c8a, f8a, B8a⟩ := T7.out.noda O8 g8 n8
                    have B8a := Lib.hid B8a
                    have T9a := Lib.hid T9a
                    clear O8 g8 n8 one8
                    refine hK.out _ _ ?_ (fun hHeld => ?_)
                    · (try dsimp only)
                      exact KS.out _ B8a.out
                    clear hK K
                    (try simp only [Act.put, List.setIfInBounds_toArray, List.set_cons_zero, List.set_cons_succ])
                    refine wpAnyH_take (i := 11) (oi := { dst := some 106, op := Op.fieldAddr 28 (Operand.tmp 7) 1, type := 0, pos := "law.go:152", after := #[{ on := 0, ground := Ground.phase }, { on := 1, ground := Ground.phase }, { on := 2, ground := Ground.phase }, { on := 3, ground := Ground.phase }, { on := 4, ground := Ground.phase }, { on := 5, ground := Ground.phase }, { on := 6, ground := Ground.phase }, { on := 7, ground := Ground.phase }, { on := 8, ground := Ground.phase }, { on := 9, ground := Ground.phase }, { on := 10, ground := Ground.phase }], guard := none }) (v := ?_) rfl (by kernel_rfl) (by kernel_rfl) (by kernel_rfl) (fun _ _ _ h => h) (Or.inl ⟨by rfl, ?_⟩) (by assumption) ?_
                    rotate_left
                    · intro w hSw; (try dsimp only at hSw); go_simp <;> (with_reducible rfl)
                    (try simp only [Act.put, List.setIfInBounds_toArray, List.set_cons_zero, List.set_cons_succ])
                    refine wpAnyH_ready (rs := [12]) (by kernel_rfl) (by simp) ?_
                    refine AllReadyH.cons (o := { dst := none, op := Op.store 26 (Operand.tmp 106) (Operand.tmp 105), type := 0, pos := "law.go:152", after := #[{ on := 11, ground := Ground.data }, { on := 10, ground := Ground.data }, { on := 10, ground := Ground.chain }, { on := 0, ground := Ground.phase }, { on := 1, ground := Ground.phase }, { on := 2, ground := Ground.phase }, { on := 3, ground := Ground.phase }, { on := 4, ground := Ground.phase }, { on := 5, ground := Ground.phase }, { on := 6, ground := Ground.phase }, { on := 7, ground := Ground.phase }, { on := 8, ground := Ground.phase }, { on := 9, ground := Ground.phase }, { on := 10, ground := Ground.phase }], guard := none }) rfl (fun K hK => ?_) ?_
                    · go_simp
                      refine hK.out _ _ ?_ (fun hHeld => ?_)
                      · (try dsimp only)
                        exact KS.out _ T9a.out.a.b
                      clear hK K
                      (try simp only [Act.put, List.setIfInBounds_toArray, List.set_cons_zero, List.set_cons_succ])
                      refine wpAnyH_done (by kernel_rfl) ?_ _
                      refine NoPanic.normal ?_
                      generalize w8a.setCell ⟨w1.heap.size, 1, none⟩ (.slice A8a l8a k8a) = w9 at *
                      clear hHeld B8a c8a f8a
                      have BD2 := Lib.hid (below_drewP T9a.out.a.b)
                      obtain ⟨W5, e5, T5, Q5⟩ : ∃ W5, w9.drew.alloc (.cells #[.int .i64 8, .int .i64 0, .int .i64 0, .int .i64 0, .string (strB s ++ tail), .int .u32 0, .slice none 0 0] 37) = W5 ∧ Hid (Tr2 w w1.heap.size w2.heap.size (.slice Ad nd kd) D (.slice A8a l8a k8a) ((U.take p).map kdV ++ [ndK 8 s]) (.slice Ae ne ke) (D.map (tailD t)) (.slice Af nf kf) ((U.take p).map (kdW t)) W5) ∧ Hid (HasB W5 w9.heap.size 37 (ndP (ndK 8 (s ++ t)))) := ⟨_, rfl, Lib.hid (T9a.out.bel (bel_al (below_drewP (Below.refl _ w9)) _)), Lib.hid (by show HasB _ _ _ [_, _, _, _, .string (strB (s ++ t)), _, _]; rw [HTL.out]; exact HasB.new w9.drew _ _)⟩
                      have m0 := T9a.out.b.h.cell 1
                      have m1 := T5.out.b.h.cell 1
                      simp only [List.getElem?_cons_zero, List.getElem?_cons_succ] at m0 m1
                      go_wp2_with fail
                      refine wp_region_noPanic ?_
                      refine wp_region_held_drew (S := (fun w' => w'.cell? (y.add (p * 2)) = some (.string (strB s)) ∧ w'.cell? ⟨(y.add (p * 2)).block, (y.add (p * 2)).off + 1, none⟩ = some (.bool true))) (by kernel_rfl) ?_ (fun hHeld => ?_)
                      · (try dsimp only)
                        exact KS.out _ BD2.out
                      refine wpAnyH_take (i := 0) (oi := { dst := some 107, op := Op.fieldAddr 28 (Operand.tmp 8) 1, type := 0, pos := "law.go:153", after := #[], guard := none }) (v := ?_) rfl (by kernel_rfl) (by kernel_rfl) (by kernel_rfl) (fun _ _ _ h => h) (Or.inl ⟨by rfl, ?_⟩) (by assumption) ?_
                      rotate_left
                      · intro w hSw; (try dsimp only at hSw); go_simp <;> (with_reducible rfl)
                      (try simp only [Act.put, List.setIfInBounds_toArray, List.set_cons_zero, List.set_cons_succ])
                      refine wpAnyH_take (i := 2) (oi := { dst := some 109, op := Op.move (Operand.tmp 11), type := 3, pos := "law.go:153", after := #[], guard := none }) (v := ?_) rfl (by kernel_rfl) (by kernel_rfl) (by kernel_rfl) (fun _ _ _ h => h) (Or.inl ⟨by rfl, ?_⟩) (by assumption) ?_
                      rotate_left
                      · intro w hSw; (try dsimp only at hSw); go_simp <;> (with_reducible rfl)
                      (try simp only [Act.put, List.setIfInBounds_toArray, List.set_cons_zero, List.set_cons_succ])
                      refine wpAnyH_take (i := 3) (oi := { dst := some 110, op := Op.move (Operand.tmp 1), type := 23, pos := "law.go:153", after := #[], guard := none }) (v := ?_) rfl (by kernel_rfl) (by kernel_rfl) (by kernel_rfl) (fun _ _ _ h => h) (Or.inl ⟨by rfl, ?_⟩) (by assumption) ?_
                      rotate_left
                      · intro w hSw; (try dsimp only at hSw); go_simp <;> (with_reducible rfl)
                      (try simp only [Act.put, List.setIfInBounds_toArray, List.set_cons_zero, List.set_cons_succ])
                      refine wpAnyH_take (i := 4) (oi := { dst := some 111, op := Op.move (Operand.tmp 10), type := 3, pos := "law.go:153", after := #[], guard := none }) (v := ?_) rfl (by kernel_rfl) (by kernel_rfl) (by kernel_rfl) (fun _ _ _ h => h) (Or.inl ⟨by rfl, ?_⟩) (by assumption) ?_
                      rotate_left
                      · intro w hSw; (try dsimp only at hSw); go_simp <;> (with_reducible rfl)
                      (try simp only [Act.put, List.setIfInBounds_toArray, List.set_cons_zero, List.set_cons_succ])
                      refine wpAnyH_take (i := 5) (oi := { dst := some 112, op := Op.indexAddr 23 (Operand.tmp 110) (Operand.tmp 111), type := 0, pos := "law.go:153", after := #[{ on := 3, ground := Ground.data }, { on := 4, ground := Ground.data }], guard := none }) (v := ?_) rfl (by kernel_rfl) (by kernel_rfl) (by kernel_rfl) (fun _ _ _ h => h) (Or.inl ⟨by rfl, ?_⟩) (by assumption) ?_
                      rotate_left
                      · intro w hSw; (try dsimp only at hSw); go_simp <;> (with_reducible rfl)
                      (try simp only [Act.put, List.setIfInBounds_toArray, List.set_cons_zero, List.set_cons_succ])
                      refine wpAnyH_take (i := 6) (oi := { dst := some 113, op := Op.fieldAddr 33 (Operand.tmp 112) 0, type := 0, pos := "law.go:153", after := #[{ on := 5, ground := Ground.data }], guard := none }) (v := ?_) rfl (by kernel_rfl) (by kernel_rfl) (by kernel_rfl) (fun _ _ _ h => h) (Or.inl ⟨by rfl, ?_⟩) (by assumption) ?_
                      rotate_left
                      · intro w hSw; (try dsimp only at hSw); go_simp <;> (with_reducible rfl)
                      (try simp only [Act.put, List.setIfInBounds_toArray, List.set_cons_zero, List.set_cons_succ])
                      refine wpAnyH_take (i := 7) (oi := { dst := some 114, op := Op.load 9 (Operand.tmp 113), type := 9, pos := "law.go:153", after := #[{ on := 6, ground := Ground.data }], guard := none }) (v := ?_) rfl (by kernel_rfl) (by kernel_rfl) (by kernel_rfl) (fun _ _ _ h => h) (Or.inl ⟨by rfl, ?_⟩) (by assumption) ?_
                      rotate_left
                      · intro w hSw; (try dsimp only at hSw); go_simp <;> (with_reducible rfl)
                      (try simp only [Act.put, List.setIfInBounds_toArray, List.set_cons_zero, List.set_cons_succ])
                      refine wpAnyH_take (i := 8) (oi := { dst := some 115, op := Op.move (Operand.tmp 2), type := 9, pos := "law.go:153", after := #[], guard := none }) (v := ?_) rfl (by kernel_rfl) (by kernel_rfl) (by kernel_rfl) (fun _ _ _ h => h) (Or.inl ⟨by rfl, ?_⟩) (by assumption) ?_
                      rotate_left
                      · intro w hSw; (try dsimp only at hSw); go_simp <;> (with_reducible rfl)
                      (try simp only [Act.put, List.setIfInBounds_toArray, List.set_cons_zero, List.set_cons_succ])
                      refine wpAnyH_take (i := 9) (oi := { dst := some 116, op := Op.binOp BinOp.add 9 (Operand.tmp 114) (Operand.tmp 115) 9, type := 9, pos := "law.go:153", after := #[{ on := 7, ground := Ground.data }, { on := 8, ground := Ground.data }], guard := none }) (v := ?_) rfl (by kernel_rfl) (by kernel_rfl) (by kernel_rfl) (fun _ _ _ h => h) (Or.inl ⟨by rfl, ?_⟩) (by assumption) ?_
                      rotate_left
                      · intro w hSw; (try dsimp only at hSw); go_simp <;> (with_reducible rfl)
                      (try simp only [Act.put, List.setIfInBounds_toArray, List.set_cons_zero, List.set_cons_succ])
                      refine wpAnyH_take (i := 10) (oi := { dst := some 117, op := Op.build 37 #[(0, Operand.tmp 109), (4, Operand.tmp 116)], type := 37, pos := "law.go:153", after := #[{ on := 2, ground := Ground.data }, { on := 9, ground := Ground.data }], guard := none }) (v := ?_) rfl (by kernel_rfl) (by kernel_rfl) (by kernel_rfl) (fun _ _ _ h => h) (Or.inl ⟨by rfl, ?_⟩) (by assumption) ?_
                      rotate_left
                      · intro w hSw; (try dsimp only at hSw); go_simp <;> (with_reducible rfl)
                      (try simp only [Act.put, List.setIfInBounds_toArray, List.set_cons_zero, List.set_cons_succ])
                      refine wpAnyH_ready (rs := [1, 11]) (by kernel_rfl) (by simp) ?_
                      refine AllReadyH.cons (o := { dst := some 108, op := Op.load 26 (Operand.tmp 107), type := 26, pos := "law.go:153", after := #[{ on := 0, ground := Ground.data }], guard := none }) rfl (fun K hK => ?_) ?_
                      · go_simp
                        refine hK.out _ _ ?_ (fun hHeld => ?_)
                        · (try dsimp only)
                          first | exact KS.out _ BD2.out | exact KS.out _ T5.out.a.b
                        clear hK K
                        (try simp only [Act.put, List.setIfInBounds_toArray, List.set_cons_zero, List.set_cons_succ])
                        refine wpAnyH_ready (rs := [11]) (by kernel_rfl) (by simp) ?_
                        refine AllReadyH.cons (o := { dst := some 118, op := Op.buildSlice 26 1 #[(0, Operand.tmp 117)], type := 26, pos := "law.go:153", after := #[{ on := 10, ground := Ground.data }], guard := none }) rfl (fun K hK => ?_) ?_
                        · go_simp
                          refine hK.out _ _ ?_ (fun hHeld => ?_)
                          · (try dsimp only)
                            exact KS.out _ T5.out.a.b
                          clear hK K
                          (try simp only [Act.put, List.setIfInBounds_toArray, List.set_cons_zero, List.set_cons_succ])
                          refine wpAnyH_ready (rs := [12]) (by kernel_rfl) (by simp) ?_
                          refine AllReadyH.cons (o := { dst := some 119, op := Op.call { callee := Callee.builtin Builtin.append, args := #[Operand.tmp 108, Operand.tmp 118], argTypes := #[26, 26] }, type := 26, pos := "law.go:153", after := #[{ on := 1, ground := Ground.data }, { on := 11, ground := Ground.data }], guard := none }) rfl (fun K hK => ?_) ?_
                          · refine app_ndO (.tmp 108) (.tmp 118) rfl T5.out.b.n rfl (ndK 8 (s ++ t)) rfl w9.heap.size rfl Q5.out (by rw [List.length_map, List.length_take]; omega) T5.out.b.b.size ?_
                            intro v8b w8b O8 g8 n8 one8
                            obtain ⟨A8b, l8b, k8b, rfl⟩ : ∃ A n c, v8b = .slice A n c := by obtain ⟨A, c, e⟩ := own_form O8; exact ⟨A, _, c, e⟩
                            obtain ⟨T9b, c8b, f8b, B8b⟩ := T5.out.nodb O8 g8 n8
                            have B8b := Lib.hid B8b
                            have T9b := Lib.hid T9b
                            clear O8 g8 n8 one8
                            refine hK.out _ _ ?_ (fun hHeld => ?_)
                            · (try dsimp only)
                              exact KS.out _ B8b.out
                            clear hK K
                            (try simp only [Act.put, List.setIfInBounds_toArray, List.set_cons_zero, List.set_cons_succ])
                            refine wpAnyH_take (i := 13) (oi := { dst := some 120, op := Op.fieldAddr 28 (Operand.tmp 8) 1, type := 0, pos := "law.go:153", after := #[{ on := 0, ground := Ground.phase }, { on := 1, ground := Ground.phase }, { on := 2, ground := Ground.phase }, { on := 3, ground := Ground.phase }, { on := 4, ground := Ground.phase }, { on := 5, ground := Ground.phase }, { on := 6, ground := Ground.phase }, { on := 7, ground := Ground.phase }, { on := 8, ground := Ground.phase }, { on := 9, ground := Ground.phase }, { on := 10, ground := Ground.phase }, { on := 11, ground := Ground.phase }, { on := 12, ground := Ground.phase }], guard := none }) (v := ?_) rfl (by kernel_rfl) (by kernel_rfl) (by kernel_rfl) (fun _ _ _ h => h) (Or.inl ⟨by rfl, ?_⟩) (by assumption) ?_
                            rotate_left
                            · intro w hSw; (try dsimp only at hSw); go_simp <;> (with_reducible rfl)
                            (try simp only [Act.put, List.setIfInBounds_toArray, List.set_cons_zero, List.set_cons_succ])
                            refine wpAnyH_ready (rs := [14]) (by kernel_rfl) (by simp) ?_
                            refine AllReadyH.cons (o := { dst := none, op := Op.store 26 (Operand.tmp 120) (Operand.tmp 119), type := 0, pos := "law.go:153", after := #[{ on := 13, ground := Ground.data }, { on := 12, ground := Ground.data }, { on := 12, ground := Ground.chain }, { on := 0, ground := Ground.phase }, { on := 1, ground := Ground.phase }, { on := 2, ground := Ground.phase }, { on := 3, ground := Ground.phase }, { on := 4, ground := Ground.phase }, { on := 5, ground := Ground.phase }, { on := 6, ground := Ground.phase }, { on := 7, ground := Ground.phase }, { on := 8, ground := Ground.phase }, { on := 9, ground := Ground.phase }, { on := 10, ground := Ground.phase }, { on := 11, ground := Ground.phase }, { on := 12, ground := Ground.phase }], guard := none }) rfl (fun K hK => ?_) ?_
                            · go_simp
                              refine hK.out _ _ ?_ (fun hHeld => ?_)
                              · (try dsimp only)
                                exact KS.out _ T9b.out.a.b
                              clear hK K
                              (try simp only [Act.put, List.setIfInBounds_toArray, List.set_cons_zero, List.set_cons_succ])
                              refine wpAnyH_done (by kernel_rfl) ?_ _
                              refine NoPanic.normal ?_
                              have T10 := Lib.hid (show Tr2 w w1.heap.size w2.heap.size (.slice Ad nd kd) D (.slice A8a l8a k8a) ((U.take (p + 1)).map kdV) (.slice Ae ne ke) (D.map (tailD t)) (.slice A8b l8b k8b) ((U.take (p + 1)).map (kdW t)) _ by rw [KM.out, List.map_append, List.map_append]; exact T9b.out)
                              clear hHeld T9b B8b c8b f8b
                              go_wp2
                              go_roundw
                              case rel => exact ⟨p + 1, _, _, by go_num, by omega, T10⟩
                              case measure => simp [intOf]; omega
                            exact AllReadyH.nil
                          exact AllReadyH.nil
                        exact AllReadyH.nil
                      refine AllReadyH.cons (o := { dst := some 118, op := Op.buildSlice 26 1 #[(0, Operand.tmp 117)], type := 26, pos := "law.go:153", after := #[{ on := 10, ground := Ground.data }], guard := none }) rfl (fun K hK => ?_) ?_
                      · go_simp
                        refine hK.out _ _ ?_ (fun hHeld => ?_)
                        · (try dsimp only)
                          exact KS.out _ T5.out.a.b
                        clear hK K
                        (try simp only [Act.put, List.setIfInBounds_toArray, List.set_cons_zero, List.set_cons_succ])
                        refine wpAnyH_ready (rs := [1]) (by kernel_rfl) (by simp) ?_
                        refine AllReadyH.cons (o := { dst := some 108, op := Op.load 26 (Operand.tmp 107), type := 26, pos := "law.go:153", after := #[{ on := 0, ground := Ground.data }], guard := none }) rfl (fun K hK => ?_) ?_
                        · go_simp
                          refine hK.out _ _ ?_ (fun hHeld => ?_)
                          · (try dsimp only)
                            first | exact KS.out _ BD2.out | exact KS.out _ T5.out.a.b
                          clear hK K
                          (try simp only [Act.put, List.setIfInBounds_toArray, List.set_cons_zero, List.set_cons_succ])
                          refine wpAnyH_ready (rs := [12]) (by kernel_rfl) (by simp) ?_
                          refine AllReadyH.cons (o := { dst := some 119, op := Op.call { callee := Callee.builtin Builtin.append, args := #[Operand.tmp 108, Operand.tmp 118], argTypes := #[26, 26] }, type := 26, pos := "law.go:153", after := #[{ on := 1, ground := Ground.data }, { on := 11, ground := Ground.data }], guard := none }) rfl (fun K hK => ?_) ?_
                          · refine app_ndO (.tmp 108) (.tmp 118) rfl T5.out.b.n rfl (ndK 8 (s ++ t)) rfl w9.heap.size rfl Q5.out (by rw [List.length_map, List.length_take]; omega) T5.out.b.b.size ?_
                            intro v8b w8b O8 g8 n8 one8
                            obtain ⟨A8b, l8b, k8b, rfl⟩ : ∃ A n c, v8b = .slice A n c := by obtain ⟨A, c, e⟩ := own_form O8; exact ⟨A, _, c, e⟩
                            obtain ⟨T9b, c8b, f8b, B8b⟩ := T5.out.nodb O8 g8 n8
                            have B8b := Lib.hid B8b
                            have T9b := Lib.hid T9b
                            clear O8 g8 n8 one8
                            refine hK.out _ _ ?_ (fun hHeld => ?_)
                            · (try dsimp only)
                              exact KS.out _ B8b.out
                            clear hK K
                            (try simp only [Act.put, List.setIfInBounds_toArray, List.set_cons_zero, List.set_cons_succ])
                            refine wpAnyH_take (i := 13) (oi := { dst := some 120, op := Op.fieldAddr 28 (Operand.tmp 8) 1, type := 0, pos := "law.go:153", after := #[{ on := 0, ground := Ground.phase }, { on := 1, ground := Ground.phase }, { on := 2, ground := Ground.phase }, { on := 3, ground := Ground.phase }, { on := 4, ground := Ground.phase }, { on := 5, ground := Ground.phase }, { on := 6, ground := Ground.phase }, { on := 7, ground := Ground.phase }, { on := 8, ground := Ground.phase }, { on := 9, ground := Ground.phase }, { on := 10, ground := Ground.phase }, { on := 11, ground := Ground.phase }, { on := 12, ground := Ground.phase }], guard := none }) (v := ?_) rfl (by kernel_rfl) (by kernel_rfl) (by kernel_rfl) (fun _ _ _ h => h) (Or.inl ⟨by rfl, ?_⟩) (by assumption) ?_
                            rotate_left
                            · intro w hSw; (try dsimp only at hSw); go_simp <;> (with_reducible rfl)
                            (try simp only [Act.put, List.setIfInBounds_toArray, List.set_cons_zero, List.set_cons_succ])
                            refine wpAnyH_ready (rs := [14]) (by kernel_rfl) (by simp) ?_
                            refine AllReadyH.cons (o := { dst := none, op := Op.store 26 (Operand.tmp 120) (Operand.tmp 119), type := 0, pos := "law.go:153", after := #[{ on := 13, ground := Ground.data }, { on := 12, ground := Ground.data }, { on := 12, ground := Ground.chain }, { on := 0, ground := Ground.phase }, { on := 1, ground := Ground.phase }, { on := 2, ground := Ground.phase }, { on := 3, ground := Ground.phase }, { on := 4, ground := Ground.phase }, { on := 5, ground := Ground.phase }, { on := 6, ground := Ground.phase }, { on := 7, ground := Ground.phase }, { on := 8, ground := Ground.phase }, { on := 9, ground := Ground.phase }, { on := 10, ground := Ground.phase }, { on := 11, ground := Ground.phase }, { on := 12, ground := Ground.phase }], guard := none }) rfl (fun K hK => ?_) ?_
                            · go_simp
                              refine hK.out _ _ ?_ (fun hHeld => ?_)
                              · (try dsimp only)
                                exact KS.out _ T9b.out.a.b
                              clear hK K
                              (try simp only [Act.put, List.setIfInBounds_toArray, List.set_cons_zero, List.set_cons_succ])
                              refine wpAnyH_done (by kernel_rfl) ?_ _
                              refine NoPanic.normal ?_
                              have T10 := Lib.hid (show Tr2 w w1.heap.size w2.heap.size (.slice Ad nd kd) D (.slice A8a l8a k8a) ((U.take (p + 1)).map kdV) (.slice Ae ne ke) (D.map (tailD t)) (.slice A8b l8b k8b) ((U.take (p + 1)).map (kdW t)) _ by rw [KM.out, List.map_append, List.map_append]; exact T9b.out)
                              clear hHeld T9b B8b c8b f8b
                              go_wp2
                              go_roundw
                              case rel => exact ⟨p + 1, _, _, by go_num, by omega, T10⟩
                              case measure => simp [intOf]; omega
                            exact AllReadyH.nil
                          exact AllReadyH.nil
                        exact AllReadyH.nil
                      exact AllReadyH.nil
                    exact AllReadyH.nil
                  exact AllReadyH.nil
                exact AllReadyH.nil
              refine AllReadyH.cons (o := { dst := some 104, op := Op.buildSlice 26 1 #[(0, Operand.tmp 103)], type := 26, pos := "law.go:152", after := #[{ on := 8, ground := Ground.data }], guard := none }) rfl (fun K hK => ?_) ?_
              · go_simp
                refine hK.out _ _ ?_ (fun hHeld => ?_)
                · (try dsimp only)
                  exact KS.out _ T7.out.a.b
                clear hK K
                (try simp only [Act.put, List.setIfInBounds_toArray, List.set_cons_zero, List.set_cons_succ])
                refine wpAnyH_ready (rs := [1]) (by kernel_rfl) (by simp) ?_
                refine AllReadyH.cons (o := { dst := some 96, op := Op.load 26 (Operand.tmp 95), type := 26, pos := "law.go:152", after := #[{ on := 0, ground := Ground.data }], guard := none }) rfl (fun K hK => ?_) ?_
                · go_simp
                  refine hK.out _ _ ?_ (fun hHeld => ?_)
                  · (try dsimp only)
                    first | exact KS.out _ BD.out | exact KS.out _ T7.out.a.b
                  clear hK K
                  (try simp only [Act.put, List.setIfInBounds_toArray, List.set_cons_zero, List.set_cons_succ])
                  refine wpAnyH_ready (rs := [10]) (by kernel_rfl) (by simp) ?_
                  refine AllReadyH.cons (o := { dst := some 105, op := Op.call { callee := Callee.builtin Builtin.append, args := #[Operand.tmp 96, Operand.tmp 104], argTypes := #[26, 26] }, type := 26, pos := "law.go:152", after := #[{ on := 1, ground := Ground.data }, { on := 9, ground := Ground.data }], guard := none }) rfl (fun K hK => ?_) ?_
                  · refine app_ndO (.tmp 96) (.tmp 104) rfl T7.out.a.n rfl (ndK 8 s) rfl wr.heap.size rfl Q7.out (by rw [List.length_map, List.length_take]; omega) T7.out.a.b.size ?_
                    intro v8a w8a O8 g8 n8 one8
                    obtain ⟨A8a, l8a, k8a, rfl⟩ : ∃ A n c, v8a = .slice A n c := by obtain ⟨A, c, e⟩ := own_form O8; exact ⟨A, _, c, e⟩
                    obtain ⟨T9a, c8a, f8a, B8a⟩ := T7.out.noda O8 g8 n8
                    have B8a := Lib.hid B8a
                    have T9a := Lib.hid T9a
                    clear O8 g8 n8 one8
                    refine hK.out _ _ ?_ (fun hHeld => ?_)
                    · (try dsimp only)
                      exact KS.out _ B8a.out
                    clear hK K
                    (try simp only [Act.put, List.setIfInBounds_toArray, List.set_cons_zero, List.set_cons_succ])
                    refine wpAnyH_take (i := 11) (oi := { dst := some 106, op := Op.fieldAddr 28 (Operand.tmp 7) 1, type := 0, pos := "law.go:152", after := #[{ on := 0, ground := Ground.phase }, { on := 1, ground := Ground.phase }, { on := 2, ground := Ground.phase }, { on := 3, ground := Ground.phase }, { on := 4, ground := Ground.phase }, { on := 5, ground := Ground.phase }, { on := 6, ground := Ground.phase }, { on := 7, ground := Ground.phase }, { on := 8, ground := Ground.phase }, { on := 9, ground := Ground.phase }, { on := 10, ground := Ground.phase }], guard := none }) (v := ?_) rfl (by kernel_rfl) (by kernel_rfl) (by kernel_rfl) (fun _ _ _ h => h) (Or.inl ⟨by rfl, ?_⟩) (by assumption) ?_
                    rotate_left
                    · intro w hSw; (try dsimp only at hSw); go_simp <;> (with_reducible rfl)
                    (try simp only [Act.put, List.setIfInBounds_toArray, List.set_cons_zero, List.set_cons_succ])
                    refine wpAnyH_ready (rs := [12]) (by kernel_rfl) (by simp) ?_
                    refine AllReadyH.cons (o := { dst := none, op := Op.store 26 (Operand.tmp 106) (Operand.tmp 105), type := 0, pos := "law.go:152", after := #[{ on := 11, ground := Ground.data }, { on := 10, ground := Ground.data }, { on := 10, ground := Ground.chain }, { on := 0, ground := Ground.phase }, { on := 1, ground := Ground.phase }, { on := 2, ground := Ground.phase }, { on := 3, ground := Ground.phase }, { on := 4, ground := Ground.phase }, { on := 5, ground := Ground.phase }, { on := 6, ground := Ground.phase }, { on := 7, ground := Ground.phase }, { on := 8, ground := Ground.phase }, { on := 9, ground := Ground.phase }, { on := 10, ground := Ground.phase }], guard := none }) rfl (fun K hK => ?_) ?_
                    · go_simp
                      refine hK.out _ _ ?_ (fun hHeld => ?_)
                      · (try dsimp only)
                        exact KS.out _ T9a.out.a.b
                      clear hK K
                      (try simp only [Act.put, List.setIfInBounds_toArray, List.set_cons_zero, List.set_cons_succ])
                      refine wpAnyH_done (by kernel_rfl) ?_ _
                      refine NoPanic.normal ?_
                      generalize w8a.setCell ⟨w1.heap.size, 1, none⟩ (.slice A8a l8a k8a) = w9 at *
                      clear hHeld B8a c8a f8a
                      have BD2 := Lib.hid (below_drewP T9a.out.a.b)
                      obtain ⟨W5, e5, T5, Q5⟩ : ∃ W5, w9.drew.alloc (.cells #[.int .i64 8, .int .i64 0, .int .i64 0, .int .i64 0, .string (strB s ++ tail), .int .u32 0, .slice none 0 0] 37) = W5 ∧ Hid (Tr2 w w1.heap.size w2.heap.size (.slice Ad nd kd) D (.slice A8a l8a k8a) ((U.take p).map kdV ++ [ndK 8 s]) (.slice Ae ne ke) (D.map (tailD t)) (.slice Af nf kf) ((U.take p).map (kdW t)) W5) ∧ Hid (HasB W5 w9.heap.size 37 (ndP (ndK 8 (s ++ t)))) := ⟨_, rfl, Lib.hid (T9a.out.bel (bel_al (below_drewP (Below.refl _ w9)) _)), Lib.hid (by show HasB _ _ _ [_, _, _, _, .string (strB (s ++ t)), _, _]; rw [HTL.out]; exact HasB.new w9.drew _ _)⟩
                      have m0 := T9a.out.b.h.cell 1
                      have m1 := T5.out.b.h.cell 1
                      simp only [List.getElem?_cons_zero, List.getElem?_cons_succ] at m0 m1
                      go_wp2_with fail
                      refine wp_region_noPanic ?_
                      refine wp_region_held_drew (S := (fun w' => w'.cell? (y.add (p * 2)) = some (.string (strB s)) ∧ w'.cell? ⟨(y.add (p * 2)).block, (y.add (p * 2)).off + 1, none⟩ = some (.bool true))) (by kernel_rfl) ?_ (fun hHeld => ?_)
                      · (try dsimp only)
                        exact KS.out _ BD2.out
                      refine wpAnyH_take (i := 0) (oi := { dst := some 107, op := Op.fieldAddr 28 (Operand.tmp 8) 1, type := 0, pos := "law.go:153", after := #[], guard := none }) (v := ?_) rfl (by kernel_rfl) (by kernel_rfl) (by kernel_rfl) (fun _ _ _ h => h) (Or.inl ⟨by rfl, ?_⟩) (by assumption) ?_
                      rotate_left
                      · intro w hSw; (try dsimp only at hSw); go_simp <;> (with_reducible rfl)
                      (try simp only [Act.put, List.setIfInBounds_toArray, List.set_cons_zero, List.set_cons_succ])
                      refine wpAnyH_take (i := 2) (oi := { dst := some 109, op := Op.move (Operand.tmp 11), type := 3, pos := "law.go:153", after := #[], guard := none }) (v := ?_) rfl (by kernel_rfl) (by kernel_rfl) (by kernel_rfl) (fun _ _ _ h => h) (Or.inl ⟨by rfl, ?_⟩) (by assumption) ?_
                      rotate_left
                      · intro w hSw; (try dsimp only at hSw); go_simp <;> (with_reducible rfl)
                      (try simp only [Act.put, List.setIfInBounds_toArray, List.set_cons_zero, List.set_cons_succ])
                      refine wpAnyH_take (i := 3) (oi := { dst := some 110, op := Op.move (Operand.tmp 1), type := 23, pos := "law.go:153", after := #[], guard := none }) (v := ?_) rfl (by kernel_rfl) (by kernel_rfl) (by kernel_rfl) (fun _ _ _ h => h) (Or.inl ⟨by rfl, ?_⟩) (by assumption) ?_
                      rotate_left
                      · intro w hSw; (try dsimp only at hSw); go_simp <;> (with_reducible rfl)
                      (try simp only [Act.put, List.setIfInBounds_toArray, List.set_cons_zero, List.set_cons_succ])
                      refine wpAnyH_take (i := 4) (oi := { dst := some 111, op := Op.move (Operand.tmp 10), type := 3, pos := "law.go:153", after := #[], guard := none }) (v := ?_) rfl (by kernel_rfl) (by kernel_rfl) (by kernel_rfl) (fun _ _ _ h => h) (Or.inl ⟨by rfl, ?_⟩) (by assumption) ?_
                      rotate_left
                      · intro w hSw; (try dsimp only at hSw); go_simp <;> (with_reducible rfl)
                      (try simp only [Act.put, List.setIfInBounds_toArray, List.set_cons_zero, List.set_cons_succ])
                      refine wpAnyH_take (i := 5) (oi := { dst := some 112, op := Op.indexAddr 23 (Operand.tmp 110) (Operand.tmp 111), type := 0, pos := "law.go:153", after := #[{ on := 3, ground := Ground.data }, { on := 4, ground := Ground.data }], guard := none }) (v := ?_) rfl (by kernel_rfl) (by kernel_rfl) (by kernel_rfl) (fun _ _ _ h => h) (Or.inl ⟨by rfl, ?_⟩) (by assumption) ?_
                      rotate_left
                      · intro w hSw; (try dsimp only at hSw); go_simp <;> (with_reducible rfl)
                      (try simp only [Act.put, List.setIfInBounds_toArray, List.set_cons_zero, List.set_cons_succ])
                      refine wpAnyH_take (i := 6) (oi := { dst := some 113, op := Op.fieldAddr 33 (Operand.tmp 112) 0, type := 0, pos := "law.go:153", after := #[{ on := 5, ground := Ground.data }], guard := none }) (v := ?_) rfl (by kernel_rfl) (by kernel_rfl) (by kernel_rfl) (fun _ _ _ h => h) (Or.inl ⟨by rfl, ?_⟩) (by assumption) ?_
                      rotate_left
                      · intro w hSw; (try dsimp only at hSw); go_simp <;> (with_reducible rfl)
                      (try simp only [Act.put, List.setIfInBounds_toArray, List.set_cons_zero, List.set_cons_succ])
                      refine wpAnyH_take (i := 7) (oi := { dst := some 114, op := Op.load 9 (Operand.tmp 113), type := 9, pos := "law.go:153", after := #[{ on := 6, ground := Ground.data }], guard := none }) (v := ?_) rfl (by kernel_rfl) (by kernel_rfl) (by kernel_rfl) (fun _ _ _ h => h) (Or.inl ⟨by rfl, ?_⟩) (by assumption) ?_
                      rotate_left
                      · intro w hSw; (try dsimp only at hSw); go_simp <;> (with_reducible rfl)
                      (try simp only [Act.put, List.setIfInBounds_toArray, List.set_cons_zero, List.set_cons_succ])
                      refine wpAnyH_take (i := 8) (oi := { dst := some 115, op := Op.move (Operand.tmp 2), type := 9, pos := "law.go:153", after := #[], guard := none }) (v := ?_) rfl (by kernel_rfl) (by kernel_rfl) (by kernel_rfl) (fun _ _ _ h => h) (Or.inl ⟨by rfl, ?_⟩) (by assumption) ?_
                      rotate_left
                      · intro w hSw; (try dsimp only at hSw); go_simp <;> (with_reducible rfl)
                      (try simp only [Act.put, List.setIfInBounds_toArray, List.set_cons_zero, List.set_cons_succ])
                      refine wpAnyH_take (i := 9) (oi := { dst := some 116, op := Op.binOp BinOp.add 9 (Operand.tmp 114) (Operand.tmp 115) 9, type := 9, pos := "law.go:153", after := #[{ on := 7, ground := Ground.data }, { on := 8, ground := Ground.data }], guard := none }) (v := ?_) rfl (by kernel_rfl) (by kernel_rfl) (by kernel_rfl) (fun _ _ _ h => h) (Or.inl ⟨by rfl, ?_⟩) (by assumption) ?_
                      rotate_left
                      · intro w hSw; (try dsimp only at hSw); go_simp <;> (with_reducible rfl)
                      (try simp only [Act.put, List.setIfInBounds_toArray, List.set_cons_zero, List.set_cons_succ])
                      refine wpAnyH_take (i := 10) (oi := { dst := some 117, op := Op.build 37 #[(0, Operand.tmp 109), (4, Operand.tmp 116)], type := 37, pos := "law.go:153", after := #[{ on := 2, ground := Ground.data }, { on := 9, ground := Ground.data }], guard := none }) (v := ?_) rfl (by kernel_rfl) (by kernel_rfl) (by kernel_rfl) (fun _ _ _ h => h) (Or.inl ⟨by rfl, ?_⟩) (by assumption) ?_
                      rotate_left
                      · intro w hSw; (try dsimp only at hSw); go_simp <;> (with_reducible rfl)
                      (try simp only [Act.put, List.setIfInBounds_toArray, List.set_cons_zero, List.set_cons_succ])
                      refine wpAnyH_ready (rs := [1, 11]) (by kernel_rfl) (by simp) ?_
                      refine AllReadyH.cons (o := { dst := some 108, op := Op.load 26 (Operand.tmp 107), type := 26, pos := "law.go:153", after := #[{ on := 0, ground := Ground.data }], guard := none }) rfl (fun K hK => ?_) ?_
                      · go_simp
                        refine hK.out _ _ ?_ (fun hHeld => ?_)
                        · (try dsimp only)
                          first | exact KS.out _ BD2.out | exact KS.out _ T5.out.a.b
                        clear hK K
                        (try simp only [Act.put, List.setIfInBounds_toArray, List.set_cons_zero, List.set_cons_succ])
                        refine wpAnyH_ready (rs := [11]) (by kernel_rfl) (by simp) ?_
                        refine AllReadyH.cons (o := { dst := some 118, op := Op.buildSlice 26 1 #[(0, Operand.tmp 117)], type := 26, pos := "law.go:153", after := #[{ on := 10, ground := Ground.data }], guard := none }) rfl (fun K hK => ?_) ?_
                        · go_simp
                          refine hK.out _ _ ?_ (fun hHeld => ?_)
                          · (try dsimp only)
                            exact KS.out _ T5.out.a.b
                          clear hK K
                          (try simp only [Act.put, List.setIfInBounds_toArray, List.set_cons_zero, List.set_cons_succ])
                          refine wpAnyH_ready (rs := [12]) (by kernel_rfl) (by simp) ?_
                          refine AllReadyH.cons (o := { dst := some 119, op := Op.call { callee := Callee.builtin Builtin.append, args := #[Operand.tmp 108, Operand.tmp 118], argTypes := #[26, 26] }, type := 26, pos := "law.go:153", after := #[{ on := 1, ground := Ground.data }, { on := 11, ground := Ground.data }], guard := none }) rfl (fun K hK => ?_) ?_
                          · refine app_ndO (.tmp 108) (.tmp 118) rfl T5.out.b.n rfl (ndK 8 (s ++ t)) rfl w9.heap.size rfl Q5.out (by rw [List.length_map, List.length_take]; omega) T5.out.b.b.size ?_
                            intro v8b w8b O8 g8 n8 one8
                            obtain ⟨A8b, l8b, k8b, rfl⟩ : ∃ A n c, v8b = .slice A n c := by obtain ⟨A, c, e⟩ := own_form O8; exact ⟨A, _, c, e⟩
                            obtain ⟨T9b, c8b, f8b, B8b⟩ := T5.out.nodb O8 g8 n8
                            have B8b := Lib.hid B8b
                            have T9b := Lib.hid T9b
                            clear O8 g8 n8 one8
                            refine hK.out _ _ ?_ (fun hHeld => ?_)
                            · (try dsimp only)
                              exact KS.out _ B8b.out
                            clear hK K
                            (try simp only [Act.put, List.setIfInBounds_toArray, List.set_cons_zero, List.set_cons_succ])
                            refine wpAnyH_take (i := 13) (oi := { dst := some 120, op := Op.fieldAddr 28 (Operand.tmp 8) 1, type := 0, pos := "law.go:153", after := #[{ on := 0, ground := Ground.phase }, { on := 1, ground := Ground.phase }, { on := 2, ground := Ground.phase }, { on := 3, ground := Ground.phase }, { on := 4, ground := Ground.phase }, { on := 5, ground := Ground.phase }, { on := 6, ground := Ground.phase }, { on := 7, ground := Ground.phase }, { on := 8, ground := Ground.phase }, { on := 9, ground := Ground.phase }, { on := 10, ground := Ground.phase }, { on := 11, ground := Ground.phase }, { on := 12, ground := Ground.phase }], guard := none }) (v := ?_) rfl (by kernel_rfl) (by kernel_rfl) (by kernel_rfl) (fun _ _ _ h => h) (Or.inl ⟨by rfl, ?_⟩) (by assumption) ?_
                            rotate_left
                            · intro w hSw; (try dsimp only at hSw); go_simp <;> (with_reducible rfl)
                            (try simp only [Act.put, List.setIfInBounds_toArray, List.set_cons_zero, List.set_cons_succ])
                            refine wpAnyH_ready (rs := [14]) (by kernel_rfl) (by simp) ?_
                            refine AllReadyH.cons (o := { dst := none, op := Op.store 26 (Operand.tmp 120) (Operand.tmp 119), type := 0, pos := "law.go:153", after := #[{ on := 13, ground := Ground.data }, { on := 12, ground := Ground.data }, { on := 12, ground := Ground.chain }, { on := 0, ground := Ground.phase }, { on := 1, ground := Ground.phase }, { on := 2, ground := Ground.phase }, { on := 3, ground := Ground.phase }, { on := 4, ground := Ground.phase }, { on := 5, ground := Ground.phase }, { on := 6, ground := Ground.phase }, { on := 7, ground := Ground.phase }, { on := 8, ground := Ground.phase }, { on := 9, ground := Ground.phase }, { on := 10, ground := Ground.phase }, { on := 11, ground := Ground.phase }, { on := 12, ground := Ground.phase }], guard := none }) rfl (fun K hK => ?_) ?_
                            · go_simp
                              refine hK.out _ _ ?_ (fun hHeld => ?_)
                              · (try dsimp only)
                                exact KS.out _ T9b.out.a.b
                              clear hK K
                              (try simp only [Act.put, List.setIfInBounds_toArray, List.set_cons_zero, List.set_cons_succ])
                              refine wpAnyH_done (by kernel_rfl) ?_ _
                              refine NoPanic.normal ?_
                              have T10 := Lib.hid (show Tr2 w w1.heap.size w2.heap.size (.slice Ad nd kd) D (.slice A8a l8a k8a) ((U.take (p + 1)).map kdV) (.slice Ae ne ke) (D.map (tailD t)) (.slice A8b l8b k8b) ((U.take (p + 1)).map (kdW t)) _ by rw [KM.out, List.map_append, List.map_append]; exact T9b.out)
                              clear hHeld T9b B8b c8b f8b
                              go_wp2
                              go_roundw
                              case rel => exact ⟨p + 1, _, _, by go_num, by omega, T10⟩
                              case measure => simp [intOf]; omega
                            exact AllReadyH.nil
                          exact AllReadyH.nil
                        exact AllReadyH.nil
                      refine AllReadyH.cons (o := { dst := some 118, op := Op.buildSlice 26 1 #[(0, Operand.tmp 117)], type := 26, pos := "law.go:153", after := #[{ on := 10, ground := Ground.data }], guard := none }) rfl (fun K hK => ?_) ?_
                      · go_simp
                        refine hK.out _ _ ?_ (fun hHeld => ?_)
                        · (try dsimp only)
                          exact KS.out _ T5.out.a.b
                        clear hK K
                        (try simp only [Act.put, List.setIfInBounds_toArray, List.set_cons_zero, List.set_cons_succ])
                        refine wpAnyH_ready (rs := [1]) (by kernel_rfl) (by simp) ?_
                        refine AllReadyH.cons (o := { dst := some 108, op := Op.load 26 (Operand.tmp 107), type := 26, pos := "law.go:153", after := #[{ on := 0, ground := Ground.data }], guard := none }) rfl (fun K hK => ?_) ?_
                        · go_simp
                          refine hK.out _ _ ?_ (fun hHeld => ?_)
                          · (try dsimp only)
                            first | exact KS.out _ BD2.out | exact KS.out _ T5.out.a.b
                          clear hK K
                          (try simp only [Act.put, List.setIfInBounds_toArray, List.set_cons_zero, List.set_cons_succ])
                          refine wpAnyH_ready (rs := [12]) (by kernel_rfl) (by simp) ?_
                          refine AllReadyH.cons (o := { dst := some 119, op := Op.call { callee := Callee.builtin Builtin.append, args := #[Operand.tmp 108, Operand.tmp 118], argTypes := #[26, 26] }, type := 26, pos := "law.go:153", after := #[{ on := 1, ground := Ground.data }, { on := 11, ground := Ground.data }], guard := none }) rfl (fun K hK => ?_) ?_
                          · refine app_ndO (.tmp 108) (.tmp 118) rfl T5.out.b.n rfl (ndK 8 (s ++ t)) rfl w9.heap.size rfl Q5.out (by rw [List.length_map, List.length_take]; omega) T5.out.b.b.size ?_
                            intro v8b w8b O8 g8 n8 one8
                            obtain ⟨A8b, l8b, k8b, rfl⟩ : ∃ A n c, v8b = .slice A n c := by obtain ⟨A, c, e⟩ := own_form O8; exact ⟨A, _, c, e⟩
                            obtain ⟨T9b, c8b, f8b, B8b⟩ := T5.out.nodb O8 g8 n8
                            have B8b := Lib.hid B8b
                            have T9b := Lib.hid T9b
                            clear O8 g8 n8 one8
                            refine hK.out _ _ ?_ (fun hHeld => ?_)
                            · (try dsimp only)
                              exact KS.out _ B8b.out
                            clear hK K
                            (try simp only [Act.put, List.setIfInBounds_toArray, List.set_cons_zero, List.set_cons_succ])
                            refine wpAnyH_take (i := 13) (oi := { dst := some 120, op := Op.fieldAddr 28 (Operand.tmp 8) 1, type := 0, pos := "law.go:153", after := #[{ on := 0, ground := Ground.phase }, { on := 1, ground := Ground.phase }, { on := 2, ground := Ground.phase }, { on := 3, ground := Ground.phase }, { on := 4, ground := Ground.phase }, { on := 5, ground := Ground.phase }, { on := 6, ground := Ground.phase }, { on := 7, ground := Ground.phase }, { on := 8, ground := Ground.phase }, { on := 9, ground := Ground.phase }, { on := 10, ground := Ground.phase }, { on := 11, ground := Ground.phase }, { on := 12, ground := Ground.phase }], guard := none }) (v := ?_) rfl (by kernel_rfl) (by kernel_rfl) (by kernel_rfl) (fun _ _ _ h => h) (Or.inl ⟨by rfl, ?_⟩) (by assumption) ?_
                            rotate_left
                            · intro w hSw; (try dsimp only at hSw); go_simp <;> (with_reducible rfl)
                            (try simp only [Act.put, List.setIfInBounds_toArray, List.set_cons_zero, List.set_cons_succ])
                            refine wpAnyH_ready (rs := [14]) (by kernel_rfl) (by simp) ?_
                            refine AllReadyH.cons (o := { dst := none, op := Op.store 26 (Operand.tmp 120) (Operand.tmp 119), type := 0, pos := "law.go:153", after := #[{ on := 13, ground := Ground.data }, { on := 12, ground := Ground.data }, { on := 12, ground := Ground.chain }, { on := 0, ground := Ground.phase }, { on := 1, ground := Ground.phase }, { on := 2, ground := Ground.phase }, { on := 3, ground := Ground.phase }, { on := 4, ground := Ground.phase }, { on := 5, ground := Ground.phase }, { on := 6, ground := Ground.phase }, { on := 7, ground := Ground.phase }, { on := 8, ground := Ground.phase }, { on := 9, ground := Ground.phase }, { on := 10, ground := Ground.phase }, { on := 11, ground := Ground.phase }, { on := 12, ground := Ground.phase }], guard := none }) rfl (fun K hK => ?_) ?_
                            · go_simp
                              refine hK.out _ _ ?_ (fun hHeld => ?_)
                              · (try dsimp only)
                                exact KS.out _ T9b.out.a.b
                              clear hK K
                              (try simp only [Act.put, List.setIfInBounds_toArray, List.set_cons_zero, List.set_cons_succ])
                              refine wpAnyH_done (by kernel_rfl) ?_ _
                              refine NoPanic.normal ?_
                              have T10 := Lib.hid (show Tr2 w w1.heap.size w2.heap.size (.slice Ad nd kd) D (.slice A8a l8a k8a) ((U.take (p + 1)).map kdV) (.slice Ae ne ke) (D.map (tailD t)) (.slice A8b l8b k8b) ((U.take (p + 1)).map (kdW t)) _ by rw [KM.out, List.map_append, List.map_append]; exact T9b.out)
                              clear hHeld T9b B8b c8b f8b
                              go_wp2
                              go_roundw
                              case rel => exact ⟨p + 1, _, _, by go_num, by omega, T10⟩
                              case measure => simp [intOf]; omega
                            exact AllReadyH.nil
                          exact AllReadyH.nil
                        exact AllReadyH.nil
                      exact AllReadyH.nil
                    exact AllReadyH.nil
                  exact AllReadyH.nil
                exact AllReadyH.nil
              exact AllReadyH.nil
            | false =>
              obtain ⟨W7, e7, T7, Q7⟩ : ∃ W7, wr.drew.alloc (.cells #[.int .i64 7, .int .i64 0, .int .i64 0, .int .i64 0, .string (strB s), .int .u32 0, .slice none 0 0] 37) = W7 ∧ Hid (Tr2 w w1.heap.size w2.heap.size (.slice Ad nd kd) D (.slice An nn kn) ((U.take p).map kdV) (.slice Ae ne ke) (D.map (tailD t)) (.slice Af nf kf) ((U.take p).map (kdW t)) W7) ∧ Hid (HasB W7 wr.heap.size 37 (ndP (ndK 7 s))) := ⟨_, rfl, Lib.hid (HT.out.bel (bel_al (below_drewP (Below.refl _ wr)) _)), Lib.hid (HasB.new wr.drew _ _)⟩
              have u0 := T7.out.a.h.cell 1
              simp only [List.getElem?_cons_zero, List.getElem?_cons_succ] at u0
              go_wp2_with fail
              refine wp_region_noPanic ?_
              refine wp_region_held_drew (S := (fun w' => w'.cell? (y.add (p * 2)) = some (.string (strB s)) ∧ w'.cell? ⟨(y.add (p * 2)).block, (y.add (p * 2)).off + 1, none⟩ = some (.bool false))) (by kernel_rfl) ?_ (fun hHeld => ?_)
              · (try dsimp only)
                exact KS.out _ BD.out
              refine wpAnyH_take (i := 0) (oi := { dst := some 95, op := Op.fieldAddr 28 (Operand.tmp 7) 1, type := 0, pos := "law.go:152", after := #[], guard := none }) (v := ?_) rfl (by kernel_rfl) (by kernel_rfl) (by kernel_rfl) (fun _ _ _ h => h) (Or.inl ⟨by rfl, ?_⟩) (by assumption) ?_
              rotate_left
              · intro w hSw; (try dsimp only at hSw); go_simp <;> (with_reducible rfl)
              (try simp only [Act.put, List.setIfInBounds_toArray, List.set_cons_zero, List.set_cons_succ])
              refine wpAnyH_take (i := 2) (oi := { dst := some 97, op := Op.move (Operand.tmp 11), type := 3, pos := "law.go:152", after := #[], guard := none }) (v := ?_) rfl (by kernel_rfl) (by kernel_rfl) (by kernel_rfl) (fun _ _ _ h => h) (Or.inl ⟨by rfl, ?_⟩) (by assumption) ?_
              rotate_left
              · intro w hSw; (try dsimp only at hSw); go_simp <;> (with_reducible rfl)
              (try simp only [Act.put, List.setIfInBounds_toArray, List.set_cons_zero, List.set_cons_succ])
              refine wpAnyH_take (i := 3) (oi := { dst := some 98, op := Op.move (Operand.tmp 1), type := 23, pos := "law.go:152", after := #[], guard := none }) (v := ?_) rfl (by kernel_rfl) (by kernel_rfl) (by kernel_rfl) (fun _ _ _ h => h) (Or.inl ⟨by rfl, ?_⟩) (by assumption) ?_
              rotate_left
              · intro w hSw; (try dsimp only at hSw); go_simp <;> (with_reducible rfl)
              (try simp only [Act.put, List.setIfInBounds_toArray, List.set_cons_zero, List.set_cons_succ])
              refine wpAnyH_take (i := 4) (oi := { dst := some 99, op := Op.move (Operand.tmp 10), type := 3, pos := "law.go:152", after := #[], guard := none }) (v := ?_) rfl (by kernel_rfl) (by kernel_rfl) (by kernel_rfl) (fun _ _ _ h => h) (Or.inl ⟨by rfl, ?_⟩) (by assumption) ?_
              rotate_left
              · intro w hSw; (try dsimp only at hSw); go_simp <;> (with_reducible rfl)
              (try simp only [Act.put, List.setIfInBounds_toArray, List.set_cons_zero, List.set_cons_succ])
              refine wpAnyH_take (i := 5) (oi := { dst := some 100, op := Op.indexAddr 23 (Operand.tmp 98) (Operand.tmp 99), type := 0, pos := "law.go:152", after := #[{ on := 3, ground := Ground.data }, { on := 4, ground := Ground.data }], guard := none }) (v := ?_) rfl (by kernel_rfl) (by kernel_rfl) (by kernel_rfl) (fun _ _ _ h => h) (Or.inl ⟨by rfl, ?_⟩) (by assumption) ?_
              rotate_left
              · intro w hSw; (try dsimp only at hSw); go_simp <;> (with_reducible rfl)
              (try simp only [Act.put, List.setIfInBounds_toArray, List.set_cons_zero, List.set_cons_succ])
              refine wpAnyH_take (i := 6) (oi := { dst := some 101, op := Op.fieldAddr 33 (Operand.tmp 100) 0, type := 0, pos := "law.go:152", after := #[{ on := 5, ground := Ground.data }], guard := none }) (v := ?_) rfl (by kernel_rfl) (by kernel_rfl) (by kernel_rfl) (fun _ _ _ h => h) (Or.inl ⟨by rfl, ?_⟩) (by assumption) ?_
              rotate_left
              · intro w hSw; (try dsimp only at hSw); go_simp <;> (with_reducible rfl)
              (try simp only [Act.put, List.setIfInBounds_toArray, List.set_cons_zero, List.set_cons_succ])
              refine wpAnyH_take (i := 7) (oi := { dst := some 102, op := Op.load 9 (Operand.tmp 101), type := 9, pos := "law.go:152", after := #[{ on := 6, ground := Ground.data }], guard := none }) (v := ?_) rfl (by kernel_rfl) (by kernel_rfl) (by kernel_rfl) (fun _ _ _ h => h) (Or.inl ⟨by rfl, ?_⟩) (by assumption) ?_
              rotate_left
              · intro w hSw; (try dsimp only at hSw); go_simp <;> (with_reducible rfl)
              (try simp only [Act.put, List.setIfInBounds_toArray, List.set_cons_zero, List.set_cons_succ])
              refine wpAnyH_take (i := 8) (oi := { dst := some 103, op := Op.build 37 #[(0, Operand.tmp 97), (4, Operand.tmp 102)], type := 37, pos := "law.go:152", after := #[{ on := 2, ground := Ground.data }, { on := 7, ground := Ground.data }], guard := none }) (v := ?_) rfl (by kernel_rfl) (by kernel_rfl) (by kernel_rfl) (fun _ _ _ h => h) (Or.inl ⟨by rfl, ?_⟩) (by assumption) ?_
              rotate_left
              · intro w hSw; (try dsimp only at hSw); go_simp <;> (with_reducible rfl)
              (try simp only [Act.put, List.setIfInBounds_toArray, List.set_cons_zero, List.set_cons_succ])
              refine wpAnyH_ready (rs := [1, 9]) (by kernel_rfl) (by simp) ?_
              refine AllReadyH.cons (o := { dst := some 96, op := Op.load 26 (Operand.tmp 95), type := 26, pos := "law.go:152", after := #[{ on := 0, ground := Ground.data }], guard := none }) rfl (fun K hK => ?_) ?_
              · go_simp
                refine hK.out _ _ ?_ (fun hHeld => ?_)
                · (try dsimp only)
                  first | exact KS.out _ BD.out | exact KS.out _ T7.out.a.b
                clear hK K
                (try simp only [Act.put, List.setIfInBounds_toArray, List.set_cons_zero, List.set_cons_succ])
                refine wpAnyH_ready (rs := [9]) (by kernel_rfl) (by simp) ?_
                refine AllReadyH.cons (o := { dst := some 104, op := Op.buildSlice 26 1 #[(0, Operand.tmp 103)], type := 26, pos := "law.go:152", after := #[{ on := 8, ground := Ground.data }], guard := none }) rfl (fun K hK => ?_) ?_
                · go_simp
                  refine hK.out _ _ ?_ (fun hHeld => ?_)
                  · (try dsimp only)
                    exact KS.out _ T7.out.a.b
                  clear hK K
                  (try simp only [Act.put, List.setIfInBounds_toArray, List.set_cons_zero, List.set_cons_succ])
                  refine wpAnyH_ready (rs := [10]) (by kernel_rfl) (by simp) ?_
                  refine AllReadyH.cons (o := { dst := some 105, op := Op.call { callee := Callee.builtin Builtin.append, args := #[Operand.tmp 96, Operand.tmp 104], argTypes := #[26, 26] }, type := 26, pos := "law.go:152", after := #[{ on := 1, ground := Ground.data }, { on := 9, ground := Ground.data }], guard := none }) rfl (fun K hK => ?_) ?_
                  · refine app_ndO (.tmp 96) (.tmp 104) rfl T7.out.a.n rfl (ndK 7 s) rfl wr.heap.size rfl Q7.out (by rw [List.length_map, List.length_take]; omega) T7.out.a.b.size ?_
                    intro v8a w8a O8 g8 n8 one8
                    obtain ⟨A8a, l8a, k8a, rfl⟩ : ∃ A n c, v8a = .slice A n c := by obtain ⟨A, c, e⟩ := own_form O8; exact ⟨A, _, c, e⟩
                    obtain ⟨T9a, c8a, f8a, B8a⟩ := T7.out.noda O8 g8 n8
                    have B8a := Lib.hid B8a
                    have T9a := Lib.hid T9a
                    clear O8 g8 n8 one8
                    refine hK.out _ _ ?_ (fun hHeld => ?_)
                    · (try dsimp only)
                      exact KS.out _ B8a.out
                    clear hK K
                    (try simp only [Act.put, List.setIfInBounds_toArray, List.set_cons_zero, List.set_cons_succ])
                    refine wpAnyH_take (i := 11) (oi := { dst := some 106, op := Op.fieldAddr 28 (Operand.tmp 7) 1, type := 0, pos := "law.go:152", after := #[{ on := 0, ground := Ground.phase }, { on := 1, ground := Ground.phase }, { on := 2, ground := Ground.phase }, { on := 3, ground := Ground.phase }, { on := 4, ground := Ground.phase }, { on := 5, ground := Ground.phase }, { on := 6, ground := Ground.phase }, { on := 7, ground := Ground.phase }, { on := 8, ground := Ground.phase }, { on := 9, ground := Ground.phase }, { on := 10, ground := Ground.phase }], guard := none }) (v := ?_) rfl (by kernel_rfl) (by kernel_rfl) (by kernel_rfl) (fun _ _ _ h => h) (Or.inl ⟨by rfl, ?_⟩) (by assumption) ?_
                    rotate_left
                    · intro w hSw; (try dsimp only at hSw); go_simp <;> (with_reducible rfl)
                    (try simp only [Act.put, List.setIfInBounds_toArray, List.set_cons_zero, List.set_cons_succ])
                    refine wpAnyH_ready (rs := [12]) (by kernel_rfl) (by simp) ?_
                    refine AllReadyH.cons (o := { dst := none, op := Op.store 26 (Operand.tmp 106) (Operand.tmp 105), type := 0, pos := "law.go:152", after := #[{ on := 11, ground := Ground.data }, { on := 10, ground := Ground.data }, { on := 10, ground := Ground.chain }, { on := 0, ground := Ground.phase }, { on := 1, ground := Ground.phase }, { on := 2, ground := Ground.phase }, { on := 3, ground := Ground.phase }, { on := 4, ground := Ground.phase }, { on := 5, ground := Ground.phase }, { on := 6, ground := Ground.phase }, { on := 7, ground := Ground.phase }, { on := 8, ground := Ground.phase }, { on := 9, ground := Ground.phase }, { on := 10, ground := Ground.phase }], guard := none }) rfl (fun K hK => ?_) ?_
                    · go_simp
                      refine hK.out _ _ ?_ (fun hHeld => ?_)
                      · (try dsimp only)
                        exact KS.out _ T9a.out.a.b
                      clear hK K
                      (try simp only [Act.put, List.setIfInBounds_toArray, List.set_cons_zero, List.set_cons_succ])
                      refine wpAnyH_done (by kernel_rfl) ?_ _
                      refine NoPanic.normal ?_
                      generalize w8a.setCell ⟨w1.heap.size, 1, none⟩ (.slice A8a l8a k8a) = w9 at *
                      clear hHeld B8a c8a f8a
                      have BD2 := Lib.hid (below_drewP T9a.out.a.b)
                      obtain ⟨W5, e5, T5, Q5⟩ : ∃ W5, w9.drew.alloc (.cells #[.int .i64 7, .int .i64 0, .int .i64 0, .int .i64 0, .string (strB s ++ tail), .int .u32 0, .slice none 0 0] 37) = W5 ∧ Hid (Tr2 w w1.heap.size w2.heap.size (.slice Ad nd kd) D (.slice A8a l8a k8a) ((U.take p).map kdV ++ [ndK 7 s]) (.slice Ae ne ke) (D.map (tailD t)) (.slice Af nf kf) ((U.take p).map (kdW t)) W5) ∧ Hid (HasB W5 w9.heap.size 37 (ndP (ndK 7 (s ++ t)))) := ⟨_, rfl, Lib.hid (T9a.out.bel (bel_al (below_drewP (Below.refl _ w9)) _)), Lib.hid (by show HasB _ _ _ [_, _, _, _, .string (strB (s ++ t)), _, _]; rw [HTL.out]; exact HasB.new w9.drew _ _)⟩
                      have m0 := T9a.out.b.h.cell 1
                      have m1 := T5.out.b.h.cell 1
                      simp only [List.getElem?_cons_zero, List.getElem?_cons_succ] at m0 m1
                      go_wp2_with fail
                      refine wp_region_noPanic ?_
                      refine wp_region_held_drew (S := (fun w' => w'.cell? (y.add (p * 2)) = some (.string (strB s)) ∧ w'.cell? ⟨(y.add (p * 2)).block, (y.add (p * 2)).off + 1, none⟩ = some (.bool false))) (by kernel_rfl) ?_ (fun hHeld => ?_)
                      · (try dsimp only)
                        exact KS.out _ BD2.out
                      refine wpAnyH_take (i := 0) (oi := { dst := some 107, op := Op.fieldAddr 28 (Operand.tmp 8) 1, type := 0, pos := "law.go:153", after := #[], guard := none }) (v := ?_) rfl (by kernel_rfl) (by kernel_rfl) (by kernel_rfl) (fun _ _ _ h => h) (Or.inl ⟨by rfl, ?_⟩) (by assumption) ?_
                      rotate_left
                      · intro w hSw; (try dsimp only at hSw); go_simp <;> (with_reducible rfl)
                      (try simp only [Act.put, List.setIfInBounds_toArray, List.set_cons_zero, List.set_cons_succ])
                      refine wpAnyH_take (i := 2) (oi := { dst := some 109, op := Op.move (Operand.tmp 11), type := 3, pos := "law.go:153", after := #[], guard := none }) (v := ?_) rfl (by kernel_rfl) (by kernel_rfl) (by kernel_rfl) (fun _ _ _ h => h) (Or.inl ⟨by rfl, ?_⟩) (by assumption) ?_
                      rotate_left
                      · intro w hSw; (try dsimp only at hSw); go_simp <;> (with_reducible rfl)
                      (try simp only [Act.put, List.setIfInBounds_toArray, List.set_cons_zero, List.set_cons_succ])
                      refine wpAnyH_take (i := 3) (oi := { dst := some 110, op := Op.move (Operand.tmp 1), type := 23, pos := "law.go:153", after := #[], guard := none }) (v := ?_) rfl (by kernel_rfl) (by kernel_rfl) (by kernel_rfl) (fun _ _ _ h => h) (Or.inl ⟨by rfl, ?_⟩) (by assumption) ?_
                      rotate_left
                      · intro w hSw; (try dsimp only at hSw); go_simp <;> (with_reducible rfl)
                      (try simp only [Act.put, List.setIfInBounds_toArray, List.set_cons_zero, List.set_cons_succ])
                      refine wpAnyH_take (i := 4) (oi := { dst := some 111, op := Op.move (Operand.tmp 10), type := 3, pos := "law.go:153", after := #[], guard := none }) (v := ?_) rfl (by kernel_rfl) (by kernel_rfl) (by kernel_rfl) (fun _ _ _ h => h) (Or.inl ⟨by rfl, ?_⟩) (by assumption) ?_
                      rotate_left
                      · intro w hSw; (try dsimp only at hSw); go_simp <;> (with_reducible rfl)
                      (try simp only [Act.put, List.setIfInBounds_toArray, List.set_cons_zero, List.set_cons_succ])
                      refine wpAnyH_take (i := 5) (oi := { dst := some 112, op := Op.indexAddr 23 (Operand.tmp 110) (Operand.tmp 111), type := 0, pos := "law.go:153", after := #[{ on := 3, ground := Ground.data }, { on := 4, ground := Ground.data }], guard := none }) (v := ?_) rfl (by kernel_rfl) (by kernel_rfl) (by kernel_rfl) (fun _ _ _ h => h) (Or.inl ⟨by rfl, ?_⟩) (by assumption) ?_
                      rotate_left
                      · intro w hSw; (try dsimp only at hSw); go_simp <;> (with_reducible rfl)
                      (try simp only [Act.put, List.setIfInBounds_toArray, List.set_cons_zero, List.set_cons_succ])
                      refine wpAnyH_take (i := 6) (oi := { dst := some 113, op := Op.fieldAddr 33 (Operand.tmp 112) 0, type := 0, pos := "law.go:153", after := #[{ on := 5, ground := Ground.data }], guard := none }) (v := ?_) rfl (by kernel_rfl) (by kernel_rfl) (by kernel_rfl) (fun _ _ _ h => h) (Or.inl ⟨by rfl, ?_⟩) (by assumption) ?_
                      rotate_left
                      · intro w hSw; (try dsimp only at hSw); go_simp <;> (with_reducible rfl)
                      (try simp only [Act.put, List.setIfInBounds_toArray, List.set_cons_zero, List.set_cons_succ])
                      refine wpAnyH_take (i := 7) (oi := { dst := some 114, op := Op.load 9 (Operand.tmp 113), type := 9, pos := "law.go:153", after := #[{ on := 6, ground := Ground.data }], guard := none }) (v := ?_) rfl (by kernel_rfl) (by kernel_rfl) (by kernel_rfl) (fun _ _ _ h => h) (Or.inl ⟨by rfl, ?_⟩) (by assumption) ?_
                      rotate_left
                      · intro w hSw; (try dsimp only at hSw); go_simp <;> (with_reducible rfl)
                      (try simp only [Act.put, List.setIfInBounds_toArray, List.set_cons_zero, List.set_cons_succ])
                      refine wpAnyH_take (i := 8) (oi := { dst := some 115, op := Op.move (Operand.tmp 2), type := 9, pos := "law.go:153", after := #[], guard := none }) (v := ?_) rfl (by kernel_rfl) (by kernel_rfl) (by kernel_rfl) (fun _ _ _ h => h) (Or.inl ⟨by rfl, ?_⟩) (by assumption) ?_
                      rotate_left
                      · intro w hSw; (try dsimp only at hSw); go_simp <;> (with_reducible rfl)
                      (try simp only [Act.put, List.setIfInBounds_toArray, List.set_cons_zero, List.set_cons_succ])
                      refine wpAnyH_take (i := 9) (oi := { dst := some 116, op := Op.binOp BinOp.add 9 (Operand.tmp 114) (Operand.tmp 115) 9, type := 9, pos := "law.go:153", after := #[{ on := 7, ground := Ground.data }, { on := 8, ground := Ground.data }], guard := none }) (v := ?_) rfl (by kernel_rfl) (by kernel_rfl) (by kernel_rfl) (fun _ _ _ h => h) (Or.inl ⟨by rfl, ?_⟩) (by assumption) ?_
                      rotate_left
                      · intro w hSw; (try dsimp only at hSw); go_simp <;> (with_reducible rfl)
                      (try simp only [Act.put, List.setIfInBounds_toArray, List.set_cons_zero, List.set_cons_succ])
                      refine wpAnyH_take (i := 10) (oi := { dst := some 117, op := Op.build 37 #[(0, Operand.tmp 109), (4, Operand.tmp 116)], type := 37, pos := "law.go:153", after := #[{ on := 2, ground := Ground.data }, { on := 9, ground := Ground.data }], guard := none }) (v := ?_) rfl (by kernel_rfl) (by kernel_rfl) (by kernel_rfl) (fun _ _ _ h => h) (Or.inl ⟨by rfl, ?_⟩) (by assumption) ?_
                      rotate_left
                      · intro w hSw; (try dsimp only at hSw); go_simp <;> (with_reducible rfl)
                      (try simp only [Act.put, List.setIfInBounds_toArray, List.set_cons_zero, List.set_cons_succ])
                      refine wpAnyH_ready (rs := [1, 11]) (by kernel_rfl) (by simp) ?_
                      refine AllReadyH.cons (o := { dst := some 108, op := Op.load 26 (Operand.tmp 107), type := 26, pos := "law.go:153", after := #[{ on := 0, ground := Ground.data }], guard := none }) rfl (fun K hK => ?_) ?_
                      · go_simp
                        refine hK.out _ _ ?_ (fun hHeld => ?_)
                        · (try dsimp only)
                          first | exact KS.out _ BD2.out | exact KS.out _ T5.out.a.b
                        clear hK K
                        (try simp only [Act.put, List.setIfInBounds_toArray, List.set_cons_zero, List.set_cons_succ])
                        refine wpAnyH_ready (rs := [11]) (by kernel_rfl) (by simp) ?_
                        refine AllReadyH.cons (o := { dst := some 118, op := Op.buildSlice 26 1 #[(0, Operand.tmp 117)], type := 26, pos := "law.go:153", after := #[{ on := 10, ground := Ground.data }], guard := none }) rfl (fun K hK => ?_) ?_
                        · go_simp
                          refine hK.out _ _ ?_ (fun hHeld => ?_)
                          · (try dsimp only)
                            exact KS.out _ T5.out.a.b
                          clear hK K
                          (try simp only [Act.put, List.setIfInBounds_toArray, List.set_cons_zero, List.set_cons_succ])
                          refine wpAnyH_ready (rs := [12]) (by kernel_rfl) (by simp) ?_
                          refine AllReadyH.cons (o := { dst := some 119, op := Op.call { callee := Callee.builtin Builtin.append, args := #[Operand.tmp 108, Operand.tmp 118], argTypes := #[26, 26] }, type := 26, pos := "law.go:153", after := #[{ on := 1, ground := Ground.data }, { on := 11, ground := Ground.data }], guard := none }) rfl (fun K hK => ?_) ?_
                          · refine app_ndO (.tmp 108) (.tmp 118) rfl T5.out.b.n rfl (ndK 7 (s ++ t)) rfl w9.heap.size rfl Q5.out (by rw [List.length_map, List.length_take]; omega) T5.out.b.b.size ?_
                            intro v8b w8b O8 g8 n8 one8
                            obtain ⟨A8b, l8b, k8b, rfl⟩ : ∃ A n c, v8b = .slice A n c := by obtain ⟨A, c, e⟩ := own_form O8; exact ⟨A, _, c, e⟩
                            obtain ⟨T9b, c8b, f8b, B8b⟩ := T5.out.nodb O8 g8 n8
                            have B8b := Lib.hid B8b
                            have T9b := Lib.hid T9b
                            clear O8 g8 n8 one8
                            refine hK.out _ _ ?_ (fun hHeld => ?_)
                            · (try dsimp only)
                              exact KS.out _ B8b.out
                            clear hK K
                            (try simp only [Act.put, List.setIfInBounds_toArray, List.set_cons_zero, List.set_cons_succ])
                            refine wpAnyH_take (i := 13) (oi := { dst := some 120, op := Op.fieldAddr 28 (Operand.tmp 8) 1, type := 0, pos := "law.go:153", after := #[{ on := 0, ground := Ground.phase }, { on := 1, ground := Ground.phase }, { on := 2, ground := Ground.phase }, { on := 3, ground := Ground.phase }, { on := 4, ground := Ground.phase }, { on := 5, ground := Ground.phase }, { on := 6, ground := Ground.phase }, { on := 7, ground := Ground.phase }, { on := 8, ground := Ground.phase }, { on := 9, ground := Ground.phase }, { on := 10, ground := Ground.phase }, { on := 11, ground := Ground.phase }, { on := 12, ground := Ground.phase }], guard := none }) (v := ?_) rfl (by kernel_rfl) (by kernel_rfl) (by kernel_rfl) (fun _ _ _ h => h) (Or.inl ⟨by rfl, ?_⟩) (by assumption) ?_
                            rotate_left
                            · intro w hSw; (try dsimp only at hSw); go_simp <;> (with_reducible rfl)
                            (try simp only [Act.put, List.setIfInBounds_toArray, List.set_cons_zero, List.set_cons_succ])
                            refine wpAnyH_ready (rs := [14]) (by kernel_rfl) (by simp) ?_
                            refine AllReadyH.cons (o := { dst := none, op := Op.store 26 (Operand.tmp 120) (Operand.tmp 119), type := 0, pos := "law.go:153", after := #[{ on := 13, ground := Ground.data }, { on := 12, ground := Ground.data }, { on := 12, ground := Ground.chain }, { on := 0, ground := Ground.phase }, { on := 1, ground := Ground.phase }, { on := 2, ground := Ground.phase }, { on := 3, ground := Ground.phase }, { on := 4, ground := Ground.phase }, { on := 5, ground := Ground.phase }, { on := 6, ground := Ground.phase }, { on := 7, ground := Ground.phase }, { on := 8, ground := Ground.phase }, { on := 9, ground := Ground.phase }, { on := 10, ground := Ground.phase }, { on := 11, ground := Ground.phase }, { on := 12, ground := Ground.phase }], guard := none }) rfl (fun K hK => ?_) ?_
                            · go_simp
                              refine hK.out _ _ ?_ (fun hHeld => ?_)
                              · (try dsimp only)
                                exact KS.out _ T9b.out.a.b
                              clear hK K
                              (try simp only [Act.put, List.setIfInBounds_toArray, List.set_cons_zero, List.set_cons_succ])
                              refine wpAnyH_done (by kernel_rfl) ?_ _
                              refine NoPanic.normal ?_
                              have T10 := Lib.hid (show Tr2 w w1.heap.size w2.heap.size (.slice Ad nd kd) D (.slice A8a l8a k8a) ((U.take (p + 1)).map kdV) (.slice Ae ne ke) (D.map (tailD t)) (.slice A8b l8b k8b) ((U.take (p + 1)).map (kdW t)) _ by rw [KM.out, List.map_append, List.map_append]; exact T9b.out)
                              clear hHeld T9b B8b c8b f8b
                              go_wp2
                              go_roundw
                              case rel => exact ⟨p + 1, _, _, by go_num, by omega, T10⟩
                              case measure => simp [intOf]; omega
                            exact AllReadyH.nil
                          exact AllReadyH.nil
                        exact AllReadyH.nil
                      refine AllReadyH.cons (o := { dst := some 118, op := Op.buildSlice 26 1 #[(0, Operand.tmp 117)], type := 26, pos := "law.go:153", after := #[{ on := 10, ground := Ground.data }], guard := none }) rfl (fun K hK => ?_) ?_
                      · go_simp
                        refine hK.out _ _ ?_ (fun hHeld => ?_)
                        · (try dsimp only)
                          exact KS.out _ T5.out.a.b
                        clear hK K
                        (try simp only [Act.put, List.setIfInBounds_toArray, List.set_cons_zero, List.set_cons_succ])
                        refine wpAnyH_ready (rs := [1]) (by kernel_rfl) (by simp) ?_
                        refine AllReadyH.cons (o := { dst := some 108, op := Op.load 26 (Operand.tmp 107), type := 26, pos := "law.go:153", after := #[{ on := 0, ground := Ground.data }], guard := none }) rfl (fun K hK => ?_) ?_
                        · go_simp
                          refine hK.out _ _ ?_ (fun hHeld => ?_)
                          · (try dsimp only)
                            first | exact KS.out _ BD2.out | exact KS.out _ T5.out.a.b
                          clear hK K
                          (try simp only [Act.put, List.setIfInBounds_toArray, List.set_cons_zero, List.set_cons_succ])
                          refine wpAnyH_ready (rs := [12]) (by kernel_rfl) (by simp) ?_
                          refine AllReadyH.cons (o := { dst := some 119, op := Op.call { callee := Callee.builtin Builtin.append, args := #[Operand.tmp 108, Operand.tmp 118], argTypes := #[26, 26] }, type := 26, pos := "law.go:153", after := #[{ on := 1, ground := Ground.data }, { on := 11, ground := Ground.data }], guard := none }) rfl (fun K hK => ?_) ?_
                          · refine app_ndO (.tmp 108) (.tmp 118) rfl T5.out.b.n rfl (ndK 7 (s ++ t)) rfl w9.heap.size rfl Q5.out (by rw [List.length_map, List.length_take]; omega) T5.out.b.b.size ?_
                            intro v8b w8b O8 g8 n8 one8
                            obtain ⟨A8b, l8b, k8b, rfl⟩ : ∃ A n c, v8b = .slice A n c := by obtain ⟨A, c, e⟩ := own_form O8; exact ⟨A, _, c, e⟩
                            obtain ⟨T9b, c8b, f8b, B8b⟩ := T5.out.nodb O8 g8 n8
                            have B8b := Lib.hid B8b
                            have T9b := Lib.hid T9b
                            clear O8 g8 n8 one8
                            refine hK.out _ _ ?_ (fun hHeld => ?_)
                            · (try dsimp only)
                              exact KS.out _ B8b.out
                            clear hK K
                            (try simp only [Act.put, List.setIfInBounds_toArray, List.set_cons_zero, List.set_cons_succ])
                            refine wpAnyH_take (i := 13) (oi := { dst := some 120, op := Op.fieldAddr 28 (Operand.tmp 8) 1, type := 0, pos := "law.go:153", after := #[{ on := 0, ground := Ground.phase }, { on := 1, ground := Ground.phase }, { on := 2, ground := Ground.phase }, { on := 3, ground := Ground.phase }, { on := 4, ground := Ground.phase }, { on := 5, ground := Ground.phase }, { on := 6, ground := Ground.phase }, { on := 7, ground := Ground.phase }, { on := 8, ground := Ground.phase }, { on := 9, ground := Ground.phase }, { on := 10, ground := Ground.phase }, { on := 11, ground := Ground.phase }, { on := 12, ground := Ground.phase }], guard := none }) (v := ?_) rfl (by kernel_rfl) (by kernel_rfl) (by kernel_rfl) (fun _ _ _ h => h) (Or.inl ⟨by rfl, ?_⟩) (by assumption) ?_
                            rotate_left
                            · intro w hSw; (try dsimp only at hSw); go_simp <;> (with_reducible rfl)
                            (try simp only [Act.put, List.setIfInBounds_toArray, List.set_cons_zero, List.set_cons_succ])
                            refine wpAnyH_ready (rs := [14]) (by kernel_rfl) (by simp) ?_
                            refine AllReadyH.cons (o := { dst := none, op := Op.store 26 (Operand.tmp 120) (Operand.tmp 119), type := 0, pos := "law.go:153", after := #[{ on := 13, ground := Ground.data }, { on := 12, ground := Ground.data }, { on := 12, ground := Ground.chain }, { on := 0, ground := Ground.phase }, { on := 1, ground := Ground.phase }, { on := 2, ground := Ground.phase }, { on := 3, ground := Ground.phase }, { on := 4, ground := Ground.phase }, { on := 5, ground := Ground.phase }, { on := 6, ground := Ground.phase }, { on := 7, ground := Ground.phase }, { on := 8, ground := Ground.phase }, { on := 9, ground := Ground.phase }, { on := 10, ground := Ground.phase }, { on := 11, ground := Ground.phase }, { on := 12, ground := Ground.phase }], guard := none }) rfl (fun K hK => ?_) ?_
                            · go_simp
                              refine hK.out _ _ ?_ (fun hHeld => ?_)
                              · (try dsimp only)
                                exact KS.out _ T9b.out.a.b
                              clear hK K
                              (try simp only [Act.put, List.setIfInBounds_toArray, List.set_cons_zero, List.set_cons_succ])
                              refine wpAnyH_done (by kernel_rfl) ?_ _
                              refine NoPanic.normal ?_
                              have T10 := Lib.hid (show Tr2 w w1.heap.size w2.heap.size (.slice Ad nd kd) D (.slice A8a l8a k8a) ((U.take (p + 1)).map kdV) (.slice Ae ne ke) (D.map (tailD t)) (.slice A8b l8b k8b) ((U.take (p + 1)).map (kdW t)) _ by rw [KM.out, List.map_append, List.map_append]; exact T9b.out)
                              clear hHeld T9b B8b c8b f8b
                              go_wp2
                              go_roundw
                              case rel => exact ⟨p + 1, _, _, by go_num, by omega, T10⟩
                              case measure => simp [intOf]; omega
                            exact AllReadyH.nil
                          exact AllReadyH.nil
                        exact AllReadyH.nil
                      exact AllReadyH.nil
                    exact AllReadyH.nil
                  exact AllReadyH.nil
                exact AllReadyH.nil
              refine AllReadyH.cons (o := { dst := some 104, op := Op.buildSlice 26 1 #[(0, Operand.tmp 103)], type := 26, pos := "law.go:152", after := #[{ on := 8, ground := Ground.data }], guard := none }) rfl (fun K hK => ?_) ?_
              · go_simp
                refine hK.out _ _ ?_ (fun hHeld => ?_)
                · (try dsimp only)
                  exact KS.out _ T7.out.a.b
                clear hK K
                (try simp only [Act.put, List.setIfInBounds_toArray, List.set_cons_zero, List.set_cons_succ])
                refine wpAnyH_ready (rs := [1]) (by kernel_rfl) (by simp) ?_
                refine AllReadyH.cons (o := { dst := some 96, op := Op.load 26 (Operand.tmp 95), type := 26, pos := "law.go:152", after := #[{ on := 0, ground := Ground.data }], guard := none }) rfl (fun K hK => ?_) ?_
                · go_simp
                  refine hK.out _ _ ?_ (fun hHeld => ?_)
                  · (try dsimp only)
                    first | exact KS.out _ BD.out | exact KS.out _ T7.out.a.b
                  clear hK K
                  (try simp only [Act.put, List.setIfInBounds_toArray, List.set_cons_zero, List.set_cons_succ])
                  refine wpAnyH_ready (rs := [10]) (by kernel_rfl) (by simp) ?_
                  refine AllReadyH.cons (o := { dst := some 105, op := Op.call { callee := Callee.builtin Builtin.append, args := #[Operand.tmp 96, Operand.tmp 104], argTypes := #[26, 26] }, type := 26, pos := "law.go:152", after := #[{ on := 1, ground := Ground.data }, { on := 9, ground := Ground.data }], guard := none }) rfl (fun K hK => ?_) ?_
                  · refine app_ndO (.tmp 96) (.tmp 104) rfl T7.out.a.n rfl (ndK 7 s) rfl wr.heap.size rfl Q7.out (by rw [List.length_map, List.length_take]; omega) T7.out.a.b.size ?_
                    intro v8a w8a O8 g8 n8 one8
                    obtain ⟨A8a, l8a, k8a, rfl⟩ : ∃ A n c, v8a = .slice A n c := by obtain ⟨A, c, e⟩ := own_form O8; exact ⟨A, _, c, e⟩
                    obtain ⟨T9a, c8a, f8a, B8a⟩ := T7.out.noda O8 g8 n8
                    have B8a := Lib.hid B8a
                    have T9a := Lib.hid T9a
                    clear O8 g8 n8 one8
                    refine hK.out _ _ ?_ (fun hHeld => ?_)
                    · (try dsimp only)
                      exact KS.out _ B8a.out
                    clear hK K
                    (try simp only [Act.put, List.setIfInBounds_toArray, List.set_cons_zero, List.set_cons_succ])
                    refine wpAnyH_take (i := 11) (oi := { dst := some 106, op := Op.fieldAddr 28 (Operand.tmp 7) 1, type := 0, pos := "law.go:152", after := #[{ on := 0, ground := Ground.phase }, { on := 1, ground := Ground.phase }, { on := 2, ground := Ground.phase }, { on := 3, ground := Ground.phase }, { on := 4, ground := Ground.phase }, { on := 5, ground := Ground.phase }, { on := 6, ground := Ground.phase }, { on := 7, ground := Ground.phase }, { on := 8, ground := Ground.phase }, { on := 9, ground := Ground.phase }, { on := 10, ground := Ground.phase }], guard := none }) (v := ?_) rfl (by kernel_rfl) (by kernel_rfl) (by kernel_rfl) (fun _ _ _ h => h) (Or.inl ⟨by rfl, ?_⟩) (by assumption) ?_
                    rotate_left
                    · intro w hSw; (try dsimp only at hSw); go_simp <;> (with_reducible rfl)
                    (try simp only [Act.put, List.setIfInBounds_toArray, List.set_cons_zero, List.set_cons_succ])
                    refine wpAnyH_ready (rs := [12]) (by kernel_rfl) (by simp) ?_
                    refine AllReadyH.cons (o := { dst := none, op := Op.store 26 (Operand.tmp 106) (Operand.tmp 105), type := 0, pos := "law.go:152", after := #[{ on := 11, ground := Ground.data }, { on := 10, ground := Ground.data }, { on := 10, ground := Ground.chain }, { on := 0, ground := Ground.phase }, { on := 1, ground := Ground.phase }, { on := 2, ground := Ground.phase }, { on := 3, ground := Ground.phase }, { on := 4, ground := Ground.phase }, { on := 5, ground := Ground.phase }, { on := 6, ground := Ground.phase }, { on := 7, ground := Ground.phase }, { on := 8, ground := Ground.phase }, { on := 9, ground := Ground.phase }, { on := 10, ground := Ground.phase }], guard := none }) rfl (fun K hK => ?_) ?_
                    · go_simp
                      refine hK.out _ _ ?_ (fun hHeld => ?_)
                      · (try dsimp only)
                        exact KS.out _ T9a.out.a.b
                      clear hK K
                      (try simp only [Act.put, List.setIfInBounds_toArray, List.set_cons_zero, List.set_cons_succ])
                      refine wpAnyH_done (by kernel_rfl) ?_ _
                      refine NoPanic.normal ?_
                      generalize w8a.setCell ⟨w1.heap.size, 1, none⟩ (.slice A8a l8a k8a) = w9 at *
                      clear hHeld B8a c8a f8a
                      have BD2 := Lib.hid (below_drewP T9a.out.a.b)
                      obtain ⟨W5, e5, T5, Q5⟩ : ∃ W5, w9.drew.alloc (.cells #[.int .i64 7, .int .i64 0, .int .i64 0, .int .i64 0, .string (strB s ++ tail), .int .u32 0, .slice none 0 0] 37) = W5 ∧ Hid (Tr2 w w1.heap.size w2.heap.size (.slice Ad nd kd) D (.slice A8a l8a k8a) ((U.take p).map kdV ++ [ndK 7 s]) (.slice Ae ne ke) (D.map (tailD t)) (.slice Af nf kf) ((U.take p).map (kdW t)) W5) ∧ Hid (HasB W5 w9.heap.size 37 (ndP (ndK 7 (s ++ t)))) := ⟨_, rfl, Lib.hid (T9a.out.bel (bel_al (below_drewP (Below.refl _ w9)) _)), Lib.hid (by show HasB _ _ _ [_, _, _, _, .string (strB (s ++ t)), _, _]; rw [HTL.out]; exact HasB.new w9.drew _ _)⟩
                      have m0 := T9a.out.b.h.cell 1
                      have m1 := T5.out.b.h.cell 1
                      simp only [List.getElem?_cons_zero, List.getElem?_cons_succ] at m0 m1
                      go_wp2_with fail
                      refine wp_region_noPanic ?_
                      refine wp_region_held_drew (S := (fun w' => w'.cell? (y.add (p * 2)) = some (.string (strB s)) ∧ w'.cell? ⟨(y.add (p * 2)).block, (y.add (p * 2)).off + 1, none⟩ = some (.bool false))) (by kernel_rfl) ?_ (fun hHeld => ?_)
                      · (try dsimp only)
                        exact KS.out _ BD2.out
                      refine wpAnyH_take (i := 0) (oi := { dst := some 107, op := Op.fieldAddr 28 (Operand.tmp 8) 1, type := 0, pos := "law.go:153", after := #[], guard := none }) (v := ?_) rfl (by kernel_rfl) (by kernel_rfl) (by kernel_rfl) (fun _ _ _ h => h) (Or.inl ⟨by rfl, ?_⟩) (by assumption) ?_
                      rotate_left
                      · intro w hSw; (try dsimp only at hSw); go_simp <;> (with_reducible rfl)
                      (try simp only [Act.put, List.setIfInBounds_toArray, List.set_cons_zero, List.set_cons_succ])
                      refine wpAnyH_take (i := 2) (oi := { dst := some 109, op := Op.move (Operand.tmp 11), type := 3, pos := "law.go:153", after := #[], guard := none }) (v := ?_) rfl (by kernel_rfl) (by kernel_rfl) (by kernel_rfl) (fun _ _ _ h => h) (Or.inl ⟨by rfl, ?_⟩) (by assumption) ?_
                      rotate_left
                      · intro w hSw; (try dsimp only at hSw); go_simp <;> (with_reducible rfl)
                      (try simp only [Act.put, List.setIfInBounds_toArray, List.set_cons_zero, List.set_cons_succ])
                      refine wpAnyH_take (i := 3) (oi := { dst := some 110, op := Op.move (Operand.tmp 1), type := 23, pos := "law.go:153", after := #[], guard := none }) (v := ?_) rfl (by kernel_rfl) (by kernel_rfl) (by kernel_rfl) (fun _ _ _ h => h) (Or.inl ⟨by rfl, ?_⟩) (by assumption) ?_
                      rotate_left
                      · intro w hSw; (try dsimp only at hSw); go_simp <;> (with_reducible rfl)
                      (try simp only [Act.put, List.setIfInBounds_toArray, List.set_cons_zero, List.set_cons_succ])
                      refine wpAnyH_take (i := 4) (oi := { dst := some 111, op := Op.move (Operand.tmp 10), type := 3, pos := "law.go:153", after := #[], guard := none }) (v := ?_) rfl (by kernel_rfl) (by kernel_rfl) (by kernel_rfl) (fun _ _ _ h => h) (Or.inl ⟨by rfl, ?_⟩) (by assumption) ?_
                      rotate_left
                      · intro w hSw; (try dsimp only at hSw); go_simp <;> (with_reducible rfl)
                      (try simp only [Act.put, List.setIfInBounds_toArray, List.set_cons_zero, List.set_cons_succ])
                      refine wpAnyH_take (i := 5) (oi := { dst := some 112, op := Op.indexAddr 23 (Operand.tmp 110) (Operand.tmp 111), type := 0, pos := "law.go:153", after := #[{ on := 3, ground := Ground.data }, { on := 4, ground := Ground.data }], guard := none }) (v := ?_) rfl (by kernel_rfl) (by kernel_rfl) (by kernel_rfl) (fun _ _ _ h => h) (Or.inl ⟨by rfl, ?_⟩) (by assumption) ?_
                      rotate_left
                      · intro w hSw; (try dsimp only at hSw); go_simp <;> (with_reducible rfl)
                      (try simp only [Act.put, List.setIfInBounds_toArray, List.set_cons_zero, List.set_cons_succ])
                      refine wpAnyH_take (i := 6) (oi := { dst := some 113, op := Op.fieldAddr 33 (Operand.tmp 112) 0, type := 0, pos := "law.go:153", after := #[{ on := 5, ground := Ground.data }], guard := none }) (v := ?_) rfl (by kernel_rfl) (by kernel_rfl) (by kernel_rfl) (fun _ _ _ h => h) (Or.inl ⟨by rfl, ?_⟩) (by assumption) ?_
                      rotate_left
                      · intro w hSw; (try dsimp only at hSw); go_simp <;> (with_reducible rfl)
                      (try simp only [Act.put, List.setIfInBounds_toArray, List.set_cons_zero, List.set_cons_succ])
                      refine wpAnyH_take (i := 7) (oi := { dst := some 114, op := Op.load 9 (Operand.tmp 113), type := 9, pos := "law.go:153", after := #[{ on := 6, ground := Ground.data }], guard := none }) (v := ?_) rfl (by kernel_rfl) (by kernel_rfl) (by kernel_rfl) (fun _ _ _ h => h) (Or.inl ⟨by rfl, ?_⟩) (by assumption) ?_
                      rotate_left
                      · intro w hSw; (try dsimp only at hSw); go_simp <;> (with_reducible rfl)
                      (try simp only [Act.put, List.setIfInBounds_toArray, List.set_cons_zero, List.set_cons_succ])
                      refine wpAnyH_take (i := 8) (oi := { dst := some 115, op := Op.move (Operand.tmp 2), type := 9, pos := "law.go:153", after := #[], guard := none }) (v := ?_) rfl (by kernel_rfl) (by kernel_rfl) (by kernel_rfl) (fun _ _ _ h => h) (Or.inl ⟨by rfl, ?_⟩) (by assumption) ?_
                      rotate_left
                      · intro w hSw; (try dsimp only at hSw); go_simp <;> (with_reducible rfl)
                      (try simp only [Act.put, List.setIfInBounds_toArray, List.set_cons_zero, List.set_cons_succ])
                      refine wpAnyH_take (i := 9) (oi := { dst := some 116, op := Op.binOp BinOp.add 9 (Operand.tmp 114) (Operand.tmp 115) 9, type := 9, pos := "law.go:153", after := #[{ on := 7, ground := Ground.data }, { on := 8, ground := Ground.data }], guard := none }) (v := ?_) rfl (by kernel_rfl) (by kernel_rfl) (by kernel_rfl) (fun _ _ _ h => h) (Or.inl ⟨by rfl, ?_⟩) (by assumption) ?_
                      rotate_left
                      · intro w hSw; (try dsimp only at hSw); go_simp <;> (with_reducible rfl)
                      (try simp only [Act.put, List.setIfInBounds_toArray, List.set_cons_zero, List.set_cons_succ])
                      refine wpAnyH_take (i := 10) (oi := { dst := some 117, op := Op.build 37 #[(0, Operand.tmp 109), (4, Operand.tmp 116)], type := 37, pos := "law.go:153", after := #[{ on := 2, ground := Ground.data }, { on := 9, ground := Ground.data }], guard := none }) (v := ?_) rfl (by kernel_rfl) (by kernel_rfl) (by kernel_rfl) (fun _ _ _ h => h) (Or.inl ⟨by rfl, ?_⟩) (by assumption) ?_
                      rotate_left
                      · intro w hSw; (try dsimp only at hSw); go_simp <;> (with_reducible rfl)
                      (try simp only [Act.put, List.setIfInBounds_toArray, List.set_cons_zero, List.set_cons_succ])
                      refine wpAnyH_ready (rs := [1, 11]) (by kernel_rfl) (by simp) ?_
                      refine AllReadyH.cons (o := { dst := some 108, op := Op.load 26 (Operand.tmp 107), type := 26, pos := "law.go:153", after := #[{ on := 0, ground := Ground.data }], guard := none }) rfl (fun K hK => ?_) ?_
                      · go_simp
                        refine hK.out _ _ ?_ (fun hHeld => ?_)
                        · (try dsimp only)
                          first | exact KS.out _ BD2.out | exact KS.out _ T5.out.a.b
                        clear hK K
                        (try simp only [Act.put, List.setIfInBounds_toArray, List.set_cons_zero, List.set_cons_succ])
                        refine wpAnyH_ready (rs := [11]) (by kernel_rfl) (by simp) ?_
                        refine AllReadyH.cons (o := { dst := some 118, op := Op.buildSlice 26 1 #[(0, Operand.tmp 117)], type := 26, pos := "law.go:153", after := #[{ on := 10, ground := Ground.data }], guard := none }) rfl (fun K hK => ?_) ?_
                        · go_simp
                          refine hK.out _ _ ?_ (fun hHeld => ?_)
                          · (try dsimp only)
                            exact KS.out _ T5.out.a.b
                          clear hK K
                          (try simp only [Act.put, List.setIfInBounds_toArray, List.set_cons_zero, List.set_cons_succ])
                          refine wpAnyH_ready (rs := [12]) (by kernel_rfl) (by simp) ?_
                          refine AllReadyH.cons (o := { dst := some 119, op := Op.call { callee := Callee.builtin Builtin.append, args := #[Operand.tmp 108, Operand.tmp 118], argTypes := #[26, 26] }, type := 26, pos := "law.go:153", after := #[{ on := 1, ground := Ground.data }, { on := 11, ground := Ground.data }], guard := none }) rfl (fun K hK => ?_) ?_
                          · refine app_ndO (.tmp 108) (.tmp 118) rfl T5.out.b.n rfl (ndK 7 (s ++ t)) rfl w9.heap.size rfl Q5.out (by rw [List.length_map, List.length_take]; omega) T5.out.b.b.size ?_
                            intro v8b w8b O8 g8 n8 one8
                            obtain ⟨A8b, l8b, k8b, rfl⟩ : ∃ A n c, v8b = .slice A n c := by obtain ⟨A, c, e⟩ := own_form O8; exact ⟨A, _, c, e⟩
                            obtain ⟨T9b, c8b, f8b, B8b⟩ := T5.out.nodb O8 g8 n8
                            have B8b := Lib.hid B8b
                            have T9b := Lib.hid T9b
                            clear O8 g8 n8 one8
                            refine hK.out _ _ ?_ (fun hHeld => ?_)
                            · (try dsimp only)
                              exact KS.out _ B8b.out
                            clear hK K
                            (try simp only [Act.put, List.setIfInBounds_toArray, List.set_cons_zero, List.set_cons_succ])
                            refine wpAnyH_take (i := 13) (oi := { dst := some 120, op := Op.fieldAddr 28 (Operand.tmp 8) 1, type := 0, pos := "law.go:153", after := #[{ on := 0, ground := Ground.phase }, { on := 1, ground := Ground.phase }, { on := 2, ground := Ground.phase }, { on := 3, ground := Ground.phase }, { on := 4, ground := Ground.phase }, { on := 5, ground := Ground.phase }, { on := 6, ground := Ground.phase }, { on := 7, ground := Ground.phase }, { on := 8, ground := Ground.phase }, { on := 9, ground := Ground.phase }, { on := 10, ground := Ground.phase }, { on := 11, ground := Ground.phase }, { on := 12, ground := Ground.phase }], guard := none }) (v := ?_) rfl (by kernel_rfl) (by kernel_rfl) (by kernel_rfl) (fun _ _ _ h => h) (Or.inl ⟨by rfl, ?_⟩) (by assumption) ?_
                            rotate_left
                            · intro w hSw; (try dsimp only at hSw); go_simp <;> (with_reducible rfl)
                            (try simp only [Act.put, List.setIfInBounds_toArray, List.set_cons_zero, List.set_cons_succ])
                            refine wpAnyH_ready (rs := [14]) (by kernel_rfl) (by simp) ?_
                            refine AllReadyH.cons (o := { dst := none, op := Op.store 26 (Operand.tmp 120) (Operand.tmp 119), type := 0, pos := "law.go:153", after := #[{ on := 13, ground := Ground.data }, { on := 12, ground := Ground.data }, { on := 12, ground := Ground.chain }, { on := 0, ground := Ground.phase }, { on := 1, ground := Ground.phase }, { on := 2, ground := Ground.phase }, { on := 3, ground := Ground.phase }, { on := 4, ground := Ground.phase }, { on := 5, ground := Ground.phase }, { on := 6, ground := Ground.phase }, { on := 7, ground := Ground.phase }, { on := 8, ground := Ground.phase }, { on := 9, ground := Ground.phase }, { on := 10, ground := Ground.phase }, { on := 11, ground := Ground.phase }, { on := 12, ground := Ground.phase }], guard := none }) rfl (fun K hK => ?_) ?_
                            · go_simp
                              refine hK.out _ _ ?_ (fun hHeld => ?_)
                              · (try dsimp only)
                                exact KS.out _ T9b.out.a.b
                              clear hK K
                              (try simp only [Act.put, List.setIfInBounds_toArray, List.set_cons_zero, List.set_cons_succ])
                              refine wpAnyH_done (by kernel_rfl) ?_ _
                              refine NoPanic.normal ?_
                              have T10 := Lib.hid (show Tr2 w w1.heap.size w2.heap.size (.slice Ad nd kd) D (.slice A8a l8a k8a) ((U.take (p + 1)).map kdV) (.slice Ae ne ke) (D.map (tailD t)) (.slice A8b l8b k8b) ((U.take (p + 1)).map (kdW t)) _ by rw [KM.out, List.map_append, List.map_append]; exact T9b.out)
                              clear hHeld T9b B8b c8b f8b
                              go_wp2
                              go_roundw
                              case rel => exact ⟨p + 1, _, _, by go_num, by omega, T10⟩
                              case measure => simp [intOf]; omega
                            exact AllReadyH.nil
                          exact AllReadyH.nil
                        exact AllReadyH.nil
                      refine AllReadyH.cons (o := { dst := some 118, op := Op.buildSlice 26 1 #[(0, Operand.tmp 117)], type := 26, pos := "law.go:153", after := #[{ on := 10, ground := Ground.data }], guard := none }) rfl (fun K hK => ?_) ?_
                      · go_simp
                        refine hK.out _ _ ?_ (fun hHeld => ?_)
                        · (try dsimp only)
                          exact KS.out _ T5.out.a.b
                        clear hK K
                        (try simp only [Act.put, List.setIfInBounds_toArray, List.set_cons_zero, List.set_cons_succ])
                        refine wpAnyH_ready (rs := [1]) (by kernel_rfl) (by simp) ?_
                        refine AllReadyH.cons (o := { dst := some 108, op := Op.load 26 (Operand.tmp 107), type := 26, pos := "law.go:153", after := #[{ on := 0, ground := Ground.data }], guard := none }) rfl (fun K hK => ?_) ?_
                        · go_simp
                          refine hK.out _ _ ?_ (fun hHeld => ?_)
                          · (try dsimp only)
                            first | exact KS.out _ BD2.out | exact KS.out _ T5.out.a.b
                          clear hK K
                          (try simp only [Act.put, List.setIfInBounds_toArray, List.set_cons_zero, List.set_cons_succ])
                          refine wpAnyH_ready (rs := [12]) (by kernel_rfl) (by simp) ?_
                          refine AllReadyH.cons (o := { dst := some 119, op := Op.call { callee := Callee.builtin Builtin.append, args := #[Operand.tmp 108, Operand.tmp 118], argTypes := #[26, 26] }, type := 26, pos := "law.go:153", after := #[{ on := 1, ground := Ground.data }, { on := 11, ground := Ground.data }], guard := none }) rfl (fun K hK => ?_) ?_
                          · refine app_ndO (.tmp 108) (.tmp 118) rfl T5.out.b.n rfl (ndK 7 (s ++ t)) rfl w9.heap.size rfl Q5.out (by rw [List.length_map, List.length_take]; omega) T5.out.b.b.size ?_
                            intro v8b w8b O8 g8 n8 one8
                            obtain ⟨A8b, l8b, k8b, rfl⟩ : ∃ A n c, v8b = .slice A n c := by obtain ⟨A, c, e⟩ := own_form O8; exact ⟨A, _, c, e⟩
                            obtain ⟨T9b, c8b, f8b, B8b⟩ := T5.out.nodb O8 g8 n8
                            have B8b := Lib.hid B8b
                            have T9b := Lib.hid T9b
                            clear O8 g8 n8 one8
                            refine hK.out _ _ ?_ (fun hHeld => ?_)
                            · (try dsimp only)
                              exact KS.out _ B8b.out
                            clear hK K
                            (try simp only [Act.put, List.setIfInBounds_toArray, List.set_cons_zero, List.set_cons_succ])
                            refine wpAnyH_take (i := 13) (oi := { dst := some 120, op := Op.fieldAddr 28 (Operand.tmp 8) 1, type := 0, pos := "law.go:153", after := #[{ on := 0, ground := Ground.phase }, { on := 1, ground := Ground.phase }, { on := 2, ground := Ground.phase }, { on := 3, ground := Ground.phase }, { on := 4, ground := Ground.phase }, { on := 5, ground := Ground.phase }, { on := 6, ground := Ground.phase }, { on := 7, ground := Ground.phase }, { on := 8, ground := Ground.phase }, { on := 9, ground := Ground.phase }, { on := 10, ground := Ground.phase }, { on := 11, ground := Ground.phase }, { on := 12, ground := Ground.phase }], guard := none }) (v := ?_) rfl (by kernel_rfl) (by kernel_rfl) (by kernel_rfl) (fun _ _ _ h => h) (Or.inl ⟨by rfl, ?_⟩) (by assumption) ?_
                            rotate_left
                            · intro w hSw; (try dsimp only at hSw); go_simp <;> (with_reducible rfl)
                            (try simp only [Act.put, List.setIfInBounds_toArray, List.set_cons_zero, List.set_cons_succ])
                            refine wpAnyH_ready (rs := [14]) (by kernel_rfl) (by simp) ?_
                            refine AllReadyH.cons (o := { dst := none, op := Op.store 26 (Operand.tmp 120) (Operand.tmp 119), type := 0, pos := "law.go:153", after := #[{ on := 13, ground := Ground.data }, { on := 12, ground := Ground.data }, { on := 12, ground := Ground.chain }, { on := 0, ground := Ground.phase }, { on := 1, ground := Ground.phase }, { on := 2, ground := Ground.phase }, { on := 3, ground := Ground.phase }, { on := 4, ground := Ground.phase }, { on := 5, ground := Ground.phase }, { on := 6, ground := Ground.phase }, { on := 7, ground := Ground.phase }, { on := 8, ground := Ground.phase }, { on := 9, ground := Ground.phase }, { on := 10, ground := Ground.phase }, { on := 11, ground := Ground.phase }, { on := 12, ground := Ground.phase }], guard := none }) rfl (fun K hK => ?_) ?_
                            · go_simp
                              refine hK.out _ _ ?_ (fun hHeld => ?_)
                              · (try dsimp only)
                                exact KS.out _ T9b.out.a.b
                              clear hK K
                              (try simp only [Act.put, List.setIfInBounds_toArray, List.set_cons_zero, List.set_cons_succ])
                              refine wpAnyH_done (by kernel_rfl) ?_ _
                              refine NoPanic.normal ?_
                              have T10 := Lib.hid (show Tr2 w w1.heap.size w2.heap.size (.slice Ad nd kd) D (.slice A8a l8a k8a) ((U.take (p + 1)).map kdV) (.slice Ae ne ke) (D.map (tailD t)) (.slice A8b l8b k8b) ((U.take (p + 1)).map (kdW t)) _ by rw [KM.out, List.map_append, List.map_append]; exact T9b.out)
                              clear hHeld T9b B8b c8b f8b
                              go_wp2
                              go_roundw
                              case rel => exact ⟨p + 1, _, _, by go_num, by omega, T10⟩
                              case measure => simp [intOf]; omega
                            exact AllReadyH.nil
                          exact AllReadyH.nil
                        exact AllReadyH.nil
                      exact AllReadyH.nil
                    exact AllReadyH.nil
                  exact AllReadyH.nil
                exact AllReadyH.nil
              exact AllReadyH.nil
        · obtain rfl : p = m := by omega
          have HE : Hid (U.take p = U) := Lib.hid (List.take_of_length_le (by rw [HM.out]; exact Nat.le_refl _))
          have TD : Hid (Tr2 w w1.heap.size w2.heap.size (.slice Ad nd kd) D (.slice An nn kn) (U.map kdV) (.slice Ae ne ke) (D.map (tailD t)) (.slice Af nf kf) (U.map (kdW t)) wr.drew) := Lib.hid (by have := HT.out; rw [HE.out] at this; exact this.bel (below_drewP (Below.refl _ _)))
          have CA := fun W (T : Tr2 w w1.heap.size w2.heap.size (.slice Ad nd kd) D (.slice An nn kn) (U.map kdV) (.slice Ae ne ke) (D.map (tailD t)) (.slice Af nf kf) (U.map (kdW t)) W) => rightT T.a (by rw [HN.out]; omega) (fun d hd => Nat.le_trans (HS.out d hd) (by omega)) (by rw [List.length_map, HM.out]; omega) (kdV_ls U) 0
          have CB := fun W (T : Tr2 w w1.heap.size w2.heap.size (.slice Ad nd kd) D (.slice An nn kn) (U.map kdV) (.slice Ae ne ke) (D.map (tailD t)) (.slice Af nf kf) (U.map (kdW t)) W) => rightT T.b (by rw [List.length_map, HN.out]; omega) (fun d hd => by
            obtain ⟨d', hd', rfl⟩ := List.mem_map.1 hd
            show (d'.1 ++ t).length ≤ _
            rw [List.length_append, HTT.out]
            have := HS.out d' hd'
            omega) (by rw [List.length_map, HM.out]; omega) (kdW_ls t U) 0
          rw [kdW_us, right_tail] at CB
          generalize rightE D (usN (U.map kdV)) = rr at *
          unfold treeV at CA CB
          replace CA := Lib.hid CA
          replace CB := Lib.hid CB
          have KE := Lib.hid (fun (w' : World) (T : Tr2 w w1.heap.size w2.heap.size (.slice Ad nd kd) D (.slice An nn kn) (U.map kdV) (.slice Ae ne ke) (D.map (tailD t)) (.slice Af nf kf) (U.map (kdW t)) w') => (show (fun w' => (w'.cell? ⟨w1.heap.size, 0, none⟩ = some (.slice Ad nd kd) ∧ w'.cell? ⟨w1.heap.size, 1, none⟩ = some (.slice An nn kn) ∧ w'.cell? ⟨w1.heap.size, 2, none⟩ = some (.int .i64 0)) ∧ w'.cell? ⟨w2.heap.size, 0, none⟩ = some (.slice Ae ne ke) ∧ w'.cell? ⟨w2.heap.size, 1, none⟩ = some (.slice Af nf kf) ∧ w'.cell? ⟨w2.heap.size, 2, none⟩ = some (.int .i64 0)) w' from ⟨⟨T.a.h.cell 0, T.a.h.cell 1, T.a.h.cell 2⟩, T.b.h.cell 0, T.b.h.cell 1, T.b.h.cell 2⟩))
          clear HT HE
          go_wp2_with fail
          refine wp_region_noPanic ?_
          refine wp_region_held_drew (S := (fun w' => (w'.cell? ⟨w1.heap.size, 0, none⟩ = some (.slice Ad nd kd) ∧ w'.cell? ⟨w1.heap.size, 1, none⟩ = some (.slice An nn kn) ∧ w'.cell? ⟨w1.heap.size, 2, none⟩ = some (.int .i64 0)) ∧ w'.cell? ⟨w2.heap.size, 0, none⟩ = some (.slice Ae ne ke) ∧ w'.cell? ⟨w2.heap.size, 1, none⟩ = some (.slice Af nf kf) ∧ w'.cell? ⟨w2.heap.size, 2, none⟩ = some (.int .i64 0))) (by kernel_rfl) ?_ (fun hHeld => ?_)
          · (try dsimp only)
            exact KE.out _ TD.out
          refine wpAnyH_take (i := 0) (oi := { dst := some 121, op := Op.load 28 (Operand.tmp 7), type := 28, pos := "law.go:155", after := #[], guard := none }) (v := ?_) rfl (by kernel_rfl) (by kernel_rfl) (by kernel_rfl) (fun _ _ _ h => h) (Or.inl ⟨by rfl, ?_⟩) (by assumption) ?_
          rotate_left
          · intro w hSw; (try dsimp only at hSw); go_simp <;> (with_reducible rfl)
          (try simp only [Act.put, List.setIfInBounds_toArray, List.set_cons_zero, List.set_cons_succ])
          refine wpAnyH_take (i := 2) (oi := { dst := some 123, op := Op.load 28 (Operand.tmp 8), type := 28, pos := "law.go:155", after := #[], guard := none }) (v := ?_) rfl (by kernel_rfl) (by kernel_rfl) (by kernel_rfl) (fun _ _ _ h => h) (Or.inl ⟨by rfl, ?_⟩) (by assumption) ?_
          rotate_left
          · intro w hSw; (try dsimp only at hSw); go_simp <;> (with_reducible rfl)
          (try simp only [Act.put, List.setIfInBounds_toArray, List.set_cons_zero, List.set_cons_succ])
          refine wpAnyH_ready (rs := [1]) (by kernel_rfl) (by simp) ?_
          refine AllReadyH.cons (o := { dst := some 122, op := Op.call { callee := Callee.value (Operand.func 8), args := #[Operand.tmp 121], argTypes := #[28] }, type := 38, pos := "law.go:155", after := #[{ on := 0, ground := Ground.data }], guard := none }) rfl (fun K hK => ?_) ?_
          · go_simp
            (with_reducible refine (CA.out _ TD.out).mono ?_); rintro e wa9 ⟨rfl, ba9⟩
            go_wp2_with fail
            have TA9 := Lib.hid (TD.out.bel ba9)
            refine hK.out _ _ ?_ (fun hHeld => ?_)
            · (try dsimp only)
              exact KE.out _ TA9.out
            clear hK K
            (try simp only [Act.put, List.setIfInBounds_toArray, List.set_cons_zero, List.set_cons_succ])
            refine wpAnyH_ready (rs := [3]) (by kernel_rfl) (by simp) ?_
            refine AllReadyH.cons (o := { dst := some 124, op := Op.call { callee := Callee.value (Operand.func 8), args := #[Operand.tmp 123], argTypes := #[28] }, type := 38, pos := "law.go:155", after := #[{ on := 2, ground := Ground.data }, { on := 1, ground := Ground.chain }], guard := none }) rfl (fun K hK => ?_) ?_
            · go_simp
              (with_reducible refine (CB.out _ TA9.out).mono ?_); rintro e wb9 ⟨rfl, bb9⟩
              go_wp2_with fail
              have TB9 := Lib.hid (TA9.out.bel bb9)
              refine hK.out _ _ ?_ (fun hHeld => ?_)
              · (try dsimp only)
                exact KE.out _ TB9.out
              clear hK K
              (try simp only [Act.put, List.setIfInBounds_toArray, List.set_cons_zero, List.set_cons_succ])
              refine wpAnyH_take (i := 4) (oi := { dst := some 125, op := Op.binOp BinOp.eql 38 (Operand.tmp 122) (Operand.tmp 124) 38, type := 4, pos := "law.go:155", after := #[{ on := 1, ground := Ground.data }, { on := 3, ground := Ground.data }], guard := none }) (v := ?_) rfl (by kernel_rfl) (by kernel_rfl) (by kernel_rfl) (fun _ _ _ h => h) (Or.inl ⟨by rfl, ?_⟩) (by assumption) ?_
              rotate_left
              · intro w hSw; (try dsimp only at hSw); go_simp <;> (with_reducible rfl)
              (try simp only [Act.put, List.setIfInBounds_toArray, List.set_cons_zero, List.set_cons_succ])
              refine wpAnyH_take (i := 5) (oi := { dst := some 6, op := Op.assign (Operand.tmp 125), type := 4, pos := "law.go:155", after := #[{ on := 4, ground := Ground.data }, { on := 3, ground := Ground.chain }, { on := 0, ground := Ground.phase }, { on := 1, ground := Ground.phase }, { on := 2, ground := Ground.phase }, { on := 3, ground := Ground.phase }, { on := 4, ground := Ground.phase }], guard := none }) (v := ?_) rfl (by kernel_rfl) (by kernel_rfl) (by kernel_rfl) (fun _ _ _ h => h) (Or.inl ⟨by rfl, ?_⟩) (by assumption) ?_
              rotate_left
              · intro w hSw; (try dsimp only at hSw); go_simp <;> (with_reducible rfl)
              (try simp only [Act.put, List.setIfInBounds_toArray, List.set_cons_zero, List.set_cons_succ])
              refine wpAnyH_done (by kernel_rfl) ?_ _
              refine NoPanic.normal ?_
              clear hHeld
              go_wp2
              go_ret
              exact ⟨by first | rfl | simp, TB9.out.a.b⟩
            exact AllReadyH.nil
          exact AllReadyH.nil
end Go.Proofs.YtkacplcilkogpaaDoor.Mm
