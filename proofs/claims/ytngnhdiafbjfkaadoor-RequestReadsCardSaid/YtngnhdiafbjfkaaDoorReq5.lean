/- Heads of requests: the reference, read. -/
import Derived.Test.YtngnhdiafbjfkaaDoorReq4
import Derived.Test.YtngnhdiafbjfkaaDoorReq2
import Derived.Test.YtngnhdiafbjfkaaDoorRef04b
import Derived.Test.YtngnhdiafbjfkaaDoorStore
import Derived.Deep.DeepCutAuto
namespace Go.Proofs.YtngnhdiafbjfkaaDoor
open Go.RowKit

theorem results_cell_tmp2 {P : Program} {fn : Func} {p t t' : Tmp} {ty : TypeId} (h : fn.results = #[.cell p ty, .tmp t, .tmp t']) (tmps : Array Value) (w : World) (b : Nat) (cs : List Value) (dd : TypeDesc)
    (hp : tmps.getD p undef = .pointer (some ⟨b, 0, none⟩)) (hc : w.rangeAt b 0 cs) (hu : P.underlying ty = some dd) (hd : dd.isRow = true) (hi : (P.info? ty).map (·.size) = some cs.length) :
    (results fn tmps).run P w = .ok (.tuple #[.agg cs.toArray, tmps.getD t undef, tmps.getD t' undef]) w := by
  have hp' : tmps[p]?.getD undef = .pointer (some ⟨b, 0, none⟩) := by simpa using hp
  simp [results, h, hp', asAddr, run_loadVar_mid w b 0 ty cs dd hc hu hd hi]
def reHeadV (r : Except Int (HeadS × Nat)) : HeadS := match r with | .ok x => x.1 | .error _ => HeadS.z
def reHeadN (r : Except Int (HeadS × Nat)) : Nat := match r with | .ok x => x.2 | .error _ => 0
def reHeadE (r : Except Int (HeadS × Nat)) : Int := match r with | .ok _ => 0 | .error e => e

theorem sr_intQ (s : Bs) (a : Int) (ha : sInt s = a) (hs : s.length ≤ 8) {W0 w : World} {K : Know} {L : List Res} (h : St W0 w K L) :
    Calls Tryd.prog 38 #[.string (bb s)] w fun en w' => en = .returned (.int .i64 a) ∧ St W0 w' K L := by
  subst ha; exact sr_int s hs h

set_option maxHeartbeats 1000000 in
set_option maxRecDepth 100000 in
theorem ref17_read_short (s : Bs) (hs : s.length < 4) {W0 w : World} {K : Know} {L : List Res} (h : St W0 w K L) :
    Calls Tryd.prog 22 #[.string (bb s)] w fun en w' => en = .returned (.tuple #[.agg #[.int .i64 0, .int .i64 0, .int .i64 0, .bool false, .string ⟨#[]⟩], .int .i64 0, .int .i64 1]) ∧ St W0 w' K L := by
  have g1 := h.allocRaw #[.int .i64 0, .int .i64 0, .int .i64 0, .bool false, .string ⟨#[]⟩] 47
  have g2 := (g1.allocRaw #[.int .i64 0, .int .i64 0, .int .i64 0, .bool false, .string ⟨#[]⟩] 47)
  obtain ⟨rb, hrb⟩ : ∃ b, w.heap.size = b := ⟨_, rfl⟩
  obtain ⟨nb, hnb⟩ : ∃ b, rb + 1 = b := ⟨_, rfl⟩
  simp only [World.size_alloc, hrb, hnb] at g2
  have HS := Lib.hid hs
  obtain ⟨x0, x1, x2, x3, x4, y0, y1, y2, y3, y4⟩ := raw5 (b := nb) (g2)
  obtain ⟨p0, p1, p2, p3, p4, q0, q1, q2, q3, q4⟩ := raw5 (b := rb) (g2.p1)
  have H := Lib.hid g2
  have d1 : decide ((s.length : Int) < 4) = true := decide_eq_true (by omega)
  clear g1 g2 h hs
  go_enter Tryd.func22, Tryd.ntmps22
  go_wp2
  have hz : St W0 _ K (.raw rb #[.int .i64 0, .int .i64 0, .int .i64 0, .bool false, .string ⟨#[]⟩] 47 :: _) := (((((H.out.p1.rawSet 0 _).rawSet 1 _).rawSet 2 _).rawSet 3 _).rawSet 4 _)
  refine bodyPost_ret (results_cell_tmp2 rfl _ _ rb [.int .i64 0, .int .i64 0, .int .i64 0, .bool false, .string ⟨#[]⟩] _ rfl (St.range hz) Tryd.underlying47 rfl (by kernel_rfl)) rfl ?_
  exact ⟨rfl, hz.drop.drop⟩

set_option maxHeartbeats 1000000 in
set_option maxRecDepth 100000 in
theorem ref17_read_vers (s : Bs) (hs : ¬ s.length < 4) (hs8 : s.length ≤ 140737488355328) (a v e : Int) (ha : sInt (s.take 2) = a) (hv : sInt ((s.drop 2).take 2) = v) (he : verErr a v = e) (g : e ≠ 0) {W0 w : World} {K : Know} {L : List Res} (h : St W0 w K L) :
    Calls Tryd.prog 22 #[.string (bb s)] w fun en w' => en = .returned (.tuple #[.agg #[.int .i64 0, .int .i64 0, .int .i64 0, .bool false, .string ⟨#[]⟩], .int .i64 0, .int .i64 e]) ∧ St W0 w' K L := by
  have g1 := h.allocRaw #[.int .i64 0, .int .i64 0, .int .i64 0, .bool false, .string ⟨#[]⟩] 47
  have g2 := (g1.allocRaw #[.int .i64 0, .int .i64 0, .int .i64 0, .bool false, .string ⟨#[]⟩] 47)
  obtain ⟨rb, hrb⟩ : ∃ b, w.heap.size = b := ⟨_, rfl⟩
  obtain ⟨nb, hnb⟩ : ∃ b, rb + 1 = b := ⟨_, rfl⟩
  simp only [World.size_alloc, hrb, hnb] at g2
  have HS := Lib.hid hs
  obtain ⟨x0, x1, x2, x3, x4, y0, y1, y2, y3, y4⟩ := raw5 (b := nb) (g2)
  obtain ⟨p0, p1, p2, p3, p4, q0, q1, q2, q3, q4⟩ := raw5 (b := rb) (g2.p1)
  have H := Lib.hid g2
  have d1 : decide ((s.length : Int) < 4) = false := decide_eq_false (by omega)
  have l4 : (4 : Int) ≤ (s.length : Int) := by omega
  have l2 : (2 : Int) ≤ (s.length : Int) := by omega
  have HA := Lib.hid ha
  have HV := Lib.hid hv
  have HE := Lib.hid he
  have HL1 := Lib.hid (show (s.take 2).length ≤ 8 by rw [List.length_take]; omega)
  have HL2 := Lib.hid (show ((s.drop 2).take 2).length ≤ 8 by rw [List.length_take]; omega)
  clear g1 g2 h hs ha hv he
  go_enter Tryd.func22, Tryd.ntmps22
  go_upto_region 4 with (fail)
  go_cut [6] (fun s6 wx => ∃ hb, s6 = .pointer (some ⟨hb, 0, none⟩) ∧ St W0 wx K (.raw hb #[.int .i64 a, .int .i64 v, .int .i64 0, .bool false, .string ⟨#[]⟩] 47 :: .raw nb #[.int .i64 0, .int .i64 0, .int .i64 0, .bool false, .string ⟨#[]⟩] 47 :: .raw rb #[.int .i64 0, .int .i64 0, .int .i64 0, .bool false, .string ⟨#[]⟩] 47 :: L))
  case first =>
    have hs := H.out.drew
    refine wp_region_held_drew (S := fun _ => True) (by kernel_rfl) trivial (fun hHeld => ?_)
    refine wpAnyH_take (i := 0) (oi := { dst := some 14, op := Op.move (Operand.tmp 0), type := 9, pos := "ref.go:64", after := #[], guard := none }) (v := ?_) rfl (by kernel_rfl) (by kernel_rfl) (by kernel_rfl) (fun _ _ _ h => h) (Or.inl ⟨by rfl, ?_⟩) (by assumption) ?_
    rotate_left
    · intro w hSw; (try dsimp only at hSw); go_simp; try with_reducible rfl
    simp only [Act.put, List.setIfInBounds_toArray, List.set_cons_zero, List.set_cons_succ]
    refine wpAnyH_take (i := 1) (oi := { dst := some 15, op := Op.slice 9 (Operand.tmp 14) none (some (Operand.const (Value.int IntKind.i64 2))) none, type := 9, pos := "ref.go:64", after := #[{ on := 0, ground := Ground.data }], guard := none }) (v := ?_) rfl (by kernel_rfl) (by kernel_rfl) (by kernel_rfl) (fun _ _ _ h => h) (Or.inl ⟨by rfl, ?_⟩) (by assumption) ?_
    rotate_left
    · intro w hSw; (try dsimp only at hSw); go_simp; try with_reducible rfl
    simp only [Act.put, List.setIfInBounds_toArray, List.set_cons_zero, List.set_cons_succ]
    refine wpAnyH_take (i := 3) (oi := { dst := some 17, op := Op.move (Operand.tmp 0), type := 9, pos := "ref.go:64", after := #[], guard := none }) (v := ?_) rfl (by kernel_rfl) (by kernel_rfl) (by kernel_rfl) (fun _ _ _ h => h) (Or.inl ⟨by rfl, ?_⟩) (by assumption) ?_
    rotate_left
    · intro w hSw; (try dsimp only at hSw); go_simp; try with_reducible rfl
    simp only [Act.put, List.setIfInBounds_toArray, List.set_cons_zero, List.set_cons_succ]
    refine wpAnyH_take (i := 4) (oi := { dst := some 18, op := Op.slice 9 (Operand.tmp 17) (some (Operand.const (Value.int IntKind.i64 2))) (some (Operand.const (Value.int IntKind.i64 4))) none, type := 9, pos := "ref.go:64", after := #[{ on := 3, ground := Ground.data }], guard := none }) (v := ?_) rfl (by kernel_rfl) (by kernel_rfl) (by kernel_rfl) (fun _ _ _ h => h) (Or.inl ⟨by rfl, ?_⟩) (by assumption) ?_
    rotate_left
    · intro w hSw; (try dsimp only at hSw); go_simp; try with_reducible rfl
    simp only [Act.put, List.setIfInBounds_toArray, List.set_cons_zero, List.set_cons_succ]
    refine wpAnyH_ready (rs := [2, 7]) (by kernel_rfl) (by simp) (AllReadyH.cons (o := { dst := some 16, op := Op.call { callee := Callee.value (Operand.func 38), args := #[Operand.tmp 15], argTypes := #[9] }, type := 3, pos := "ref.go:64", after := #[{ on := 1, ground := Ground.data }], guard := none }) rfl (fun KK hK => ?_) (AllReadyH.cons (o := { dst := some 6, op := Op.alloc 47, type := 0, pos := "ref.go:64", after := #[], guard := none }) rfl (fun KK hK => ?_) AllReadyH.nil))
    · go_simp
      go_at_call 38
      with_reducible refine (sr_intQ _ a HA.out HL1.out hs).mono ?_
      rintro e wq ⟨rfl, hs⟩
      refine hK.out _ _ (trivial) (fun hHeld => ?_)
      clear hK KK
      try simp only [Act.put, List.setIfInBounds_toArray, List.set_cons_zero, List.set_cons_succ]
      refine wpAnyH_ready (rs := [5, 7]) (by kernel_rfl) (by simp) (AllReadyH.cons (o := { dst := some 19, op := Op.call { callee := Callee.value (Operand.func 38), args := #[Operand.tmp 18], argTypes := #[9] }, type := 3, pos := "ref.go:64", after := #[{ on := 4, ground := Ground.data }, { on := 2, ground := Ground.chain }], guard := none }) rfl (fun KK hK => ?_) (AllReadyH.cons (o := { dst := some 6, op := Op.alloc 47, type := 0, pos := "ref.go:64", after := #[], guard := none }) rfl (fun KK hK => ?_) AllReadyH.nil))
      · go_simp
        go_at_call 38
        with_reducible refine (sr_intQ _ v HV.out HL2.out hs).mono ?_
        rintro e wq ⟨rfl, hs⟩
        refine hK.out _ _ (trivial) (fun hHeld => ?_)
        clear hK KK
        try simp only [Act.put, List.setIfInBounds_toArray, List.set_cons_zero, List.set_cons_succ]
        refine wpAnyH_take (i := 6) (oi := { dst := some 20, op := Op.build 47 #[(0, Operand.tmp 16), (1, Operand.tmp 19)], type := 47, pos := "ref.go:64", after := #[{ on := 2, ground := Ground.data }, { on := 5, ground := Ground.data }], guard := none }) (v := ?_) rfl (by kernel_rfl) (by kernel_rfl) (by kernel_rfl) (fun _ _ _ h => h) (Or.inl ⟨by rfl, ?_⟩) (by assumption) ?_
        rotate_left
        · intro w hSw; (try dsimp only at hSw); go_simp; try with_reducible rfl
        simp only [Act.put, List.setIfInBounds_toArray, List.set_cons_zero, List.set_cons_succ]
        refine wpAnyH_ready (rs := [7]) (by kernel_rfl) (by simp) (AllReadyH.cons (o := { dst := some 6, op := Op.alloc 47, type := 0, pos := "ref.go:64", after := #[], guard := none }) rfl (fun KK hK => ?_) AllReadyH.nil)
        · obtain ⟨wy, hb, ey, eb, hs⟩ := hs.allocEx #[.int .i64 0, .int .i64 0, .int .i64 0, .bool false, .string ⟨#[]⟩] 47
          go_simp
          try rw [ey]
          try rw [eb]
          clear ey eb
          refine hK.out _ _ (trivial) (fun hHeld => ?_)
          clear hK KK
          try simp only [Act.put, List.setIfInBounds_toArray, List.set_cons_zero, List.set_cons_succ]
          refine wpAnyH_ready (rs := [8]) (by kernel_rfl) (by simp) (AllReadyH.cons (o := { dst := none, op := Op.store 47 (Operand.tmp 6) (Operand.tmp 20), type := 0, pos := "ref.go:64", after := #[{ on := 7, ground := Ground.data }, { on := 6, ground := Ground.data }, { on := 5, ground := Ground.chain }, { on := 0, ground := Ground.phase }, { on := 1, ground := Ground.phase }, { on := 2, ground := Ground.phase }, { on := 3, ground := Ground.phase }, { on := 4, ground := Ground.phase }, { on := 5, ground := Ground.phase }, { on := 6, ground := Ground.phase }, { on := 7, ground := Ground.phase }], guard := none }) rfl (fun KK hK => ?_) AllReadyH.nil)
          · rw [if_pos (by rfl)]
            refine wp_store_mid 47 (.tmp 6) (.tmp 20) rfl hb 0 #[.int .i64 a, .int .i64 v, .int .i64 0, .bool false, .string ⟨#[]⟩] (by rfl) (by rfl) hs.there (by kernel_rfl) (by simp [Value.oneCell']) ?_
            obtain ⟨wz, ez, hs⟩ := hs.storeEx #[.int .i64 a, .int .i64 v, .int .i64 0, .bool false, .string ⟨#[]⟩]
            rw [ez]
            clear ez
            refine hK.out _ _ (trivial) (fun hHeld => ?_)
            clear hK KK
            try simp only [Act.put, List.setIfInBounds_toArray, List.set_cons_zero, List.set_cons_succ]
            refine wpAnyH_done (by kernel_rfl) ?_ _
            go_wp2_with fail
            go_meet
            exact ⟨hb, rfl, hs⟩
      · obtain ⟨wy, hb, ey, eb, hs⟩ := hs.allocEx #[.int .i64 0, .int .i64 0, .int .i64 0, .bool false, .string ⟨#[]⟩] 47
        go_simp
        try rw [ey]
        try rw [eb]
        clear ey eb
        refine hK.out _ _ (trivial) (fun hHeld => ?_)
        clear hK KK
        try simp only [Act.put, List.setIfInBounds_toArray, List.set_cons_zero, List.set_cons_succ]
        refine wpAnyH_ready (rs := [5]) (by kernel_rfl) (by simp) (AllReadyH.cons (o := { dst := some 19, op := Op.call { callee := Callee.value (Operand.func 38), args := #[Operand.tmp 18], argTypes := #[9] }, type := 3, pos := "ref.go:64", after := #[{ on := 4, ground := Ground.data }, { on := 2, ground := Ground.chain }], guard := none }) rfl (fun KK hK => ?_) AllReadyH.nil)
        · go_simp
          go_at_call 38
          with_reducible refine (sr_intQ _ v HV.out HL2.out hs).mono ?_
          rintro e wq ⟨rfl, hs⟩
          refine hK.out _ _ (trivial) (fun hHeld => ?_)
          clear hK KK
          try simp only [Act.put, List.setIfInBounds_toArray, List.set_cons_zero, List.set_cons_succ]
          refine wpAnyH_take (i := 6) (oi := { dst := some 20, op := Op.build 47 #[(0, Operand.tmp 16), (1, Operand.tmp 19)], type := 47, pos := "ref.go:64", after := #[{ on := 2, ground := Ground.data }, { on := 5, ground := Ground.data }], guard := none }) (v := ?_) rfl (by kernel_rfl) (by kernel_rfl) (by kernel_rfl) (fun _ _ _ h => h) (Or.inl ⟨by rfl, ?_⟩) (by assumption) ?_
          rotate_left
          · intro w hSw; (try dsimp only at hSw); go_simp; try with_reducible rfl
          simp only [Act.put, List.setIfInBounds_toArray, List.set_cons_zero, List.set_cons_succ]
          refine wpAnyH_ready (rs := [8]) (by kernel_rfl) (by simp) (AllReadyH.cons (o := { dst := none, op := Op.store 47 (Operand.tmp 6) (Operand.tmp 20), type := 0, pos := "ref.go:64", after := #[{ on := 7, ground := Ground.data }, { on := 6, ground := Ground.data }, { on := 5, ground := Ground.chain }, { on := 0, ground := Ground.phase }, { on := 1, ground := Ground.phase }, { on := 2, ground := Ground.phase }, { on := 3, ground := Ground.phase }, { on := 4, ground := Ground.phase }, { on := 5, ground := Ground.phase }, { on := 6, ground := Ground.phase }, { on := 7, ground := Ground.phase }], guard := none }) rfl (fun KK hK => ?_) AllReadyH.nil)
          · rw [if_pos (by rfl)]
            refine wp_store_mid 47 (.tmp 6) (.tmp 20) rfl hb 0 #[.int .i64 a, .int .i64 v, .int .i64 0, .bool false, .string ⟨#[]⟩] (by rfl) (by rfl) hs.there (by kernel_rfl) (by simp [Value.oneCell']) ?_
            obtain ⟨wz, ez, hs⟩ := hs.storeEx #[.int .i64 a, .int .i64 v, .int .i64 0, .bool false, .string ⟨#[]⟩]
            rw [ez]
            clear ez
            refine hK.out _ _ (trivial) (fun hHeld => ?_)
            clear hK KK
            try simp only [Act.put, List.setIfInBounds_toArray, List.set_cons_zero, List.set_cons_succ]
            refine wpAnyH_done (by kernel_rfl) ?_ _
            go_wp2_with fail
            go_meet
            exact ⟨hb, rfl, hs⟩
    · obtain ⟨wy, hb, ey, eb, hs⟩ := hs.allocEx #[.int .i64 0, .int .i64 0, .int .i64 0, .bool false, .string ⟨#[]⟩] 47
      go_simp
      try rw [ey]
      try rw [eb]
      clear ey eb
      refine hK.out _ _ (trivial) (fun hHeld => ?_)
      clear hK KK
      try simp only [Act.put, List.setIfInBounds_toArray, List.set_cons_zero, List.set_cons_succ]
      refine wpAnyH_ready (rs := [2]) (by kernel_rfl) (by simp) (AllReadyH.cons (o := { dst := some 16, op := Op.call { callee := Callee.value (Operand.func 38), args := #[Operand.tmp 15], argTypes := #[9] }, type := 3, pos := "ref.go:64", after := #[{ on := 1, ground := Ground.data }], guard := none }) rfl (fun KK hK => ?_) AllReadyH.nil)
      · go_simp
        go_at_call 38
        with_reducible refine (sr_intQ _ a HA.out HL1.out hs).mono ?_
        rintro e wq ⟨rfl, hs⟩
        refine hK.out _ _ (trivial) (fun hHeld => ?_)
        clear hK KK
        try simp only [Act.put, List.setIfInBounds_toArray, List.set_cons_zero, List.set_cons_succ]
        refine wpAnyH_ready (rs := [5]) (by kernel_rfl) (by simp) (AllReadyH.cons (o := { dst := some 19, op := Op.call { callee := Callee.value (Operand.func 38), args := #[Operand.tmp 18], argTypes := #[9] }, type := 3, pos := "ref.go:64", after := #[{ on := 4, ground := Ground.data }, { on := 2, ground := Ground.chain }], guard := none }) rfl (fun KK hK => ?_) AllReadyH.nil)
        · go_simp
          go_at_call 38
          with_reducible refine (sr_intQ _ v HV.out HL2.out hs).mono ?_
          rintro e wq ⟨rfl, hs⟩
          refine hK.out _ _ (trivial) (fun hHeld => ?_)
          clear hK KK
          try simp only [Act.put, List.setIfInBounds_toArray, List.set_cons_zero, List.set_cons_succ]
          refine wpAnyH_take (i := 6) (oi := { dst := some 20, op := Op.build 47 #[(0, Operand.tmp 16), (1, Operand.tmp 19)], type := 47, pos := "ref.go:64", after := #[{ on := 2, ground := Ground.data }, { on := 5, ground := Ground.data }], guard := none }) (v := ?_) rfl (by kernel_rfl) (by kernel_rfl) (by kernel_rfl) (fun _ _ _ h => h) (Or.inl ⟨by rfl, ?_⟩) (by assumption) ?_
          rotate_left
          · intro w hSw; (try dsimp only at hSw); go_simp; try with_reducible rfl
          simp only [Act.put, List.setIfInBounds_toArray, List.set_cons_zero, List.set_cons_succ]
          refine wpAnyH_ready (rs := [8]) (by kernel_rfl) (by simp) (AllReadyH.cons (o := { dst := none, op := Op.store 47 (Operand.tmp 6) (Operand.tmp 20), type := 0, pos := "ref.go:64", after := #[{ on := 7, ground := Ground.data }, { on := 6, ground := Ground.data }, { on := 5, ground := Ground.chain }, { on := 0, ground := Ground.phase }, { on := 1, ground := Ground.phase }, { on := 2, ground := Ground.phase }, { on := 3, ground := Ground.phase }, { on := 4, ground := Ground.phase }, { on := 5, ground := Ground.phase }, { on := 6, ground := Ground.phase }, { on := 7, ground := Ground.phase }], guard := none }) rfl (fun KK hK => ?_) AllReadyH.nil)
          · rw [if_pos (by rfl)]
            refine wp_store_mid 47 (.tmp 6) (.tmp 20) rfl hb 0 #[.int .i64 a, .int .i64 v, .int .i64 0, .bool false, .string ⟨#[]⟩] (by rfl) (by rfl) hs.there (by kernel_rfl) (by simp [Value.oneCell']) ?_
            obtain ⟨wz, ez, hs⟩ := hs.storeEx #[.int .i64 a, .int .i64 v, .int .i64 0, .bool false, .string ⟨#[]⟩]
            rw [ez]
            clear ez
            refine hK.out _ _ (trivial) (fun hHeld => ?_)
            clear hK KK
            try simp only [Act.put, List.setIfInBounds_toArray, List.set_cons_zero, List.set_cons_succ]
            refine wpAnyH_done (by kernel_rfl) ?_ _
            go_wp2_with fail
            go_meet
            exact ⟨hb, rfl, hs⟩
  obtain ⟨hb, rfl, h⟩ := hcut
  clear H
  have H := Lib.hid h
  clear h
  obtain ⟨x0, x1, x2, x3, x4, y0, y1, y2, y3, y4⟩ := raw5 (b := hb) (H.out)
  obtain ⟨c0, c1, c2, c3, c4, f0, f1, f2, f3, f4⟩ := raw5 (b := nb) (H.out.p1)
  obtain ⟨p0, p1, p2, p3, p4, q0, q1, q2, q3, q4⟩ := raw5 (b := rb) (H.out.p2)
  have gz : (e == 0) = false := by rw [beq_eq_false_iff_ne]; exact g
  clear g
  go_wp2_with (go_at_call 29; (with_reducible refine (ref17_versions a v e HE.out H.out).mono ?_); rintro e wn ⟨rfl, h⟩; replace H := Lib.hid h; clear h; obtain ⟨c0, c1, c2, c3, c4, f0, f1, f2, f3, f4⟩ := raw5 (b := nb) (H.out.p1); obtain ⟨p0, p1, p2, p3, p4, q0, q1, q2, q3, q4⟩ := raw5 (b := rb) (H.out.p2))
  have hz : St W0 _ K (.raw rb #[.int .i64 0, .int .i64 0, .int .i64 0, .bool false, .string ⟨#[]⟩] 47 :: _) := (((((H.out.p2.rawSet 0 _).rawSet 1 _).rawSet 2 _).rawSet 3 _).rawSet 4 _)
  refine bodyPost_ret (results_cell_tmp2 rfl _ _ rb [.int .i64 0, .int .i64 0, .int .i64 0, .bool false, .string ⟨#[]⟩] _ rfl (St.range hz) Tryd.underlying47 rfl (by kernel_rfl)) rfl ?_
  exact ⟨rfl, hz.drop.drop.drop⟩

theorem raw4g {W0 w : World} {K : Know} {L : List Res} {b : Nat} {a0 a1 a2 a3 : Value} {T : TypeId} (h : St W0 w K (.raw b #[a0, a1, a2, a3] T :: L)) : w.cell? ⟨b, 0, none⟩ = some a0 ∧ w.cell? ⟨b, 1, none⟩ = some a1 ∧ w.cell? ⟨b, 2, none⟩ = some a2 ∧ w.cell? ⟨b, 3, none⟩ = some a3 :=
  ⟨(h.rawCell 0).trans rfl, (h.rawCell 1).trans rfl, (h.rawCell 2).trans rfl, (h.rawCell 3).trans rfl⟩
set_option maxHeartbeats 1000000 in
set_option maxRecDepth 100000 in
theorem ref17_read_mid (s : Bs) (hs : ¬ s.length < 4) (hs8 : s.length < 8) (a v : Int) (ha : sInt (s.take 2) = a) (hv : sInt ((s.drop 2).take 2) = v) (he : verErr a v = 0) {W0 w : World} {K : Know} {L : List Res} (h : St W0 w K L) :
    Calls Tryd.prog 22 #[.string (bb s)] w fun en w' => en = .returned (.tuple #[.agg #[.int .i64 0, .int .i64 0, .int .i64 0, .bool false, .string ⟨#[]⟩], .int .i64 0, .int .i64 1]) ∧ St W0 w' K L := by
  have g1 := h.allocRaw #[.int .i64 0, .int .i64 0, .int .i64 0, .bool false, .string ⟨#[]⟩] 47
  have g2 := (g1.allocRaw #[.int .i64 0, .int .i64 0, .int .i64 0, .bool false, .string ⟨#[]⟩] 47)
  obtain ⟨rb, hrb⟩ : ∃ b, w.heap.size = b := ⟨_, rfl⟩
  obtain ⟨nb, hnb⟩ : ∃ b, rb + 1 = b := ⟨_, rfl⟩
  simp only [World.size_alloc, hrb, hnb] at g2
  have HS := Lib.hid hs
  obtain ⟨x0, x1, x2, x3, x4, y0, y1, y2, y3, y4⟩ := raw5 (b := nb) (g2)
  obtain ⟨p0, p1, p2, p3, p4, q0, q1, q2, q3, q4⟩ := raw5 (b := rb) (g2.p1)
  have H := Lib.hid g2
  have d1 : decide ((s.length : Int) < 4) = false := decide_eq_false (by omega)
  have d2 : decide ((s.length : Int) < 8) = true := decide_eq_true (by omega)
  have l4 : (4 : Int) ≤ (s.length : Int) := by omega
  have l2 : (2 : Int) ≤ (s.length : Int) := by omega
  have HA := Lib.hid ha
  have HV := Lib.hid hv
  have HE := Lib.hid he
  have HL1 := Lib.hid (show (s.take 2).length ≤ 8 by rw [List.length_take]; omega)
  have HL2 := Lib.hid (show ((s.drop 2).take 2).length ≤ 8 by rw [List.length_take]; omega)
  clear g1 g2 h hs ha hv he hs8
  go_enter Tryd.func22, Tryd.ntmps22
  go_upto_region 4 with (fail)
  go_cut [6] (fun s6 wx => ∃ hb, s6 = .pointer (some ⟨hb, 0, none⟩) ∧ St W0 wx K (.raw hb #[.int .i64 a, .int .i64 v, .int .i64 0, .bool false, .string ⟨#[]⟩] 47 :: .raw nb #[.int .i64 0, .int .i64 0, .int .i64 0, .bool false, .string ⟨#[]⟩] 47 :: .raw rb #[.int .i64 0, .int .i64 0, .int .i64 0, .bool false, .string ⟨#[]⟩] 47 :: L))
  case first =>
    have hs := H.out.drew
    refine wp_region_held_drew (S := fun _ => True) (by kernel_rfl) trivial (fun hHeld => ?_)
    refine wpAnyH_take (i := 0) (oi := { dst := some 14, op := Op.move (Operand.tmp 0), type := 9, pos := "ref.go:64", after := #[], guard := none }) (v := ?_) rfl (by kernel_rfl) (by kernel_rfl) (by kernel_rfl) (fun _ _ _ h => h) (Or.inl ⟨by rfl, ?_⟩) (by assumption) ?_
    rotate_left
    · intro w hSw; (try dsimp only at hSw); go_simp; try with_reducible rfl
    simp only [Act.put, List.setIfInBounds_toArray, List.set_cons_zero, List.set_cons_succ]
    refine wpAnyH_take (i := 1) (oi := { dst := some 15, op := Op.slice 9 (Operand.tmp 14) none (some (Operand.const (Value.int IntKind.i64 2))) none, type := 9, pos := "ref.go:64", after := #[{ on := 0, ground := Ground.data }], guard := none }) (v := ?_) rfl (by kernel_rfl) (by kernel_rfl) (by kernel_rfl) (fun _ _ _ h => h) (Or.inl ⟨by rfl, ?_⟩) (by assumption) ?_
    rotate_left
    · intro w hSw; (try dsimp only at hSw); go_simp; try with_reducible rfl
    simp only [Act.put, List.setIfInBounds_toArray, List.set_cons_zero, List.set_cons_succ]
    refine wpAnyH_take (i := 3) (oi := { dst := some 17, op := Op.move (Operand.tmp 0), type := 9, pos := "ref.go:64", after := #[], guard := none }) (v := ?_) rfl (by kernel_rfl) (by kernel_rfl) (by kernel_rfl) (fun _ _ _ h => h) (Or.inl ⟨by rfl, ?_⟩) (by assumption) ?_
    rotate_left
    · intro w hSw; (try dsimp only at hSw); go_simp; try with_reducible rfl
    simp only [Act.put, List.setIfInBounds_toArray, List.set_cons_zero, List.set_cons_succ]
    refine wpAnyH_take (i := 4) (oi := { dst := some 18, op := Op.slice 9 (Operand.tmp 17) (some (Operand.const (Value.int IntKind.i64 2))) (some (Operand.const (Value.int IntKind.i64 4))) none, type := 9, pos := "ref.go:64", after := #[{ on := 3, ground := Ground.data }], guard := none }) (v := ?_) rfl (by kernel_rfl) (by kernel_rfl) (by kernel_rfl) (fun _ _ _ h => h) (Or.inl ⟨by rfl, ?_⟩) (by assumption) ?_
    rotate_left
    · intro w hSw; (try dsimp only at hSw); go_simp; try with_reducible rfl
    simp only [Act.put, List.setIfInBounds_toArray, List.set_cons_zero, List.set_cons_succ]
    refine wpAnyH_ready (rs := [2, 7]) (by kernel_rfl) (by simp) (AllReadyH.cons (o := { dst := some 16, op := Op.call { callee := Callee.value (Operand.func 38), args := #[Operand.tmp 15], argTypes := #[9] }, type := 3, pos := "ref.go:64", after := #[{ on := 1, ground := Ground.data }], guard := none }) rfl (fun KK hK => ?_) (AllReadyH.cons (o := { dst := some 6, op := Op.alloc 47, type := 0, pos := "ref.go:64", after := #[], guard := none }) rfl (fun KK hK => ?_) AllReadyH.nil))
    · go_simp
      go_at_call 38
      with_reducible refine (sr_intQ _ a HA.out HL1.out hs).mono ?_
      rintro e wq ⟨rfl, hs⟩
      refine hK.out _ _ (trivial) (fun hHeld => ?_)
      clear hK KK
      try simp only [Act.put, List.setIfInBounds_toArray, List.set_cons_zero, List.set_cons_succ]
      refine wpAnyH_ready (rs := [5, 7]) (by kernel_rfl) (by simp) (AllReadyH.cons (o := { dst := some 19, op := Op.call { callee := Callee.value (Operand.func 38), args := #[Operand.tmp 18], argTypes := #[9] }, type := 3, pos := "ref.go:64", after := #[{ on := 4, ground := Ground.data }, { on := 2, ground := Ground.chain }], guard := none }) rfl (fun KK hK => ?_) (AllReadyH.cons (o := { dst := some 6, op := Op.alloc 47, type := 0, pos := "ref.go:64", after := #[], guard := none }) rfl (fun KK hK => ?_) AllReadyH.nil))
      · go_simp
        go_at_call 38
        with_reducible refine (sr_intQ _ v HV.out HL2.out hs).mono ?_
        rintro e wq ⟨rfl, hs⟩
        refine hK.out _ _ (trivial) (fun hHeld => ?_)
        clear hK KK
        try simp only [Act.put, List.setIfInBounds_toArray, List.set_cons_zero, List.set_cons_succ]
        refine wpAnyH_take (i := 6) (oi := { dst := some 20, op := Op.build 47 #[(0, Operand.tmp 16), (1, Operand.tmp 19)], type := 47, pos := "ref.go:64", after := #[{ on := 2, ground := Ground.data }, { on := 5, ground := Ground.data }], guard := none }) (v := ?_) rfl (by kernel_rfl) (by kernel_rfl) (by kernel_rfl) (fun _ _ _ h => h) (Or.inl ⟨by rfl, ?_⟩) (by assumption) ?_
        rotate_left
        · intro w hSw; (try dsimp only at hSw); go_simp; try with_reducible rfl
        simp only [Act.put, List.setIfInBounds_toArray, List.set_cons_zero, List.set_cons_succ]
        refine wpAnyH_ready (rs := [7]) (by kernel_rfl) (by simp) (AllReadyH.cons (o := { dst := some 6, op := Op.alloc 47, type := 0, pos := "ref.go:64", after := #[], guard := none }) rfl (fun KK hK => ?_) AllReadyH.nil)
        · obtain ⟨wy, hb, ey, eb, hs⟩ := hs.allocEx #[.int .i64 0, .int .i64 0, .int .i64 0, .bool false, .string ⟨#[]⟩] 47
          go_simp
          try rw [ey]
          try rw [eb]
          clear ey eb
          refine hK.out _ _ (trivial) (fun hHeld => ?_)
          clear hK KK
          try simp only [Act.put, List.setIfInBounds_toArray, List.set_cons_zero, List.set_cons_succ]
          refine wpAnyH_ready (rs := [8]) (by kernel_rfl) (by simp) (AllReadyH.cons (o := { dst := none, op := Op.store 47 (Operand.tmp 6) (Operand.tmp 20), type := 0, pos := "ref.go:64", after := #[{ on := 7, ground := Ground.data }, { on := 6, ground := Ground.data }, { on := 5, ground := Ground.chain }, { on := 0, ground := Ground.phase }, { on := 1, ground := Ground.phase }, { on := 2, ground := Ground.phase }, { on := 3, ground := Ground.phase }, { on := 4, ground := Ground.phase }, { on := 5, ground := Ground.phase }, { on := 6, ground := Ground.phase }, { on := 7, ground := Ground.phase }], guard := none }) rfl (fun KK hK => ?_) AllReadyH.nil)
          · rw [if_pos (by rfl)]
            refine wp_store_mid 47 (.tmp 6) (.tmp 20) rfl hb 0 #[.int .i64 a, .int .i64 v, .int .i64 0, .bool false, .string ⟨#[]⟩] (by rfl) (by rfl) hs.there (by kernel_rfl) (by simp [Value.oneCell']) ?_
            obtain ⟨wz, ez, hs⟩ := hs.storeEx #[.int .i64 a, .int .i64 v, .int .i64 0, .bool false, .string ⟨#[]⟩]
            rw [ez]
            clear ez
            refine hK.out _ _ (trivial) (fun hHeld => ?_)
            clear hK KK
            try simp only [Act.put, List.setIfInBounds_toArray, List.set_cons_zero, List.set_cons_succ]
            refine wpAnyH_done (by kernel_rfl) ?_ _
            go_wp2_with fail
            go_meet
            exact ⟨hb, rfl, hs⟩
      · obtain ⟨wy, hb, ey, eb, hs⟩ := hs.allocEx #[.int .i64 0, .int .i64 0, .int .i64 0, .bool false, .string ⟨#[]⟩] 47
        go_simp
        try rw [ey]
        try rw [eb]
        clear ey eb
        refine hK.out _ _ (trivial) (fun hHeld => ?_)
        clear hK KK
        try simp only [Act.put, List.setIfInBounds_toArray, List.set_cons_zero, List.set_cons_succ]
        refine wpAnyH_ready (rs := [5]) (by kernel_rfl) (by simp) (AllReadyH.cons (o := { dst := some 19, op := Op.call { callee := Callee.value (Operand.func 38), args := #[Operand.tmp 18], argTypes := #[9] }, type := 3, pos := "ref.go:64", after := #[{ on := 4, ground := Ground.data }, { on := 2, ground := Ground.chain }], guard := none }) rfl (fun KK hK => ?_) AllReadyH.nil)
        · go_simp
          go_at_call 38
          with_reducible refine (sr_intQ _ v HV.out HL2.out hs).mono ?_
          rintro e wq ⟨rfl, hs⟩
          refine hK.out _ _ (trivial) (fun hHeld => ?_)
          clear hK KK
          try simp only [Act.put, List.setIfInBounds_toArray, List.set_cons_zero, List.set_cons_succ]
          refine wpAnyH_take (i := 6) (oi := { dst := some 20, op := Op.build 47 #[(0, Operand.tmp 16), (1, Operand.tmp 19)], type := 47, pos := "ref.go:64", after := #[{ on := 2, ground := Ground.data }, { on := 5, ground := Ground.data }], guard := none }) (v := ?_) rfl (by kernel_rfl) (by kernel_rfl) (by kernel_rfl) (fun _ _ _ h => h) (Or.inl ⟨by rfl, ?_⟩) (by assumption) ?_
          rotate_left
          · intro w hSw; (try dsimp only at hSw); go_simp; try with_reducible rfl
          simp only [Act.put, List.setIfInBounds_toArray, List.set_cons_zero, List.set_cons_succ]
          refine wpAnyH_ready (rs := [8]) (by kernel_rfl) (by simp) (AllReadyH.cons (o := { dst := none, op := Op.store 47 (Operand.tmp 6) (Operand.tmp 20), type := 0, pos := "ref.go:64", after := #[{ on := 7, ground := Ground.data }, { on := 6, ground := Ground.data }, { on := 5, ground := Ground.chain }, { on := 0, ground := Ground.phase }, { on := 1, ground := Ground.phase }, { on := 2, ground := Ground.phase }, { on := 3, ground := Ground.phase }, { on := 4, ground := Ground.phase }, { on := 5, ground := Ground.phase }, { on := 6, ground := Ground.phase }, { on := 7, ground := Ground.phase }], guard := none }) rfl (fun KK hK => ?_) AllReadyH.nil)
          · rw [if_pos (by rfl)]
            refine wp_store_mid 47 (.tmp 6) (.tmp 20) rfl hb 0 #[.int .i64 a, .int .i64 v, .int .i64 0, .bool false, .string ⟨#[]⟩] (by rfl) (by rfl) hs.there (by kernel_rfl) (by simp [Value.oneCell']) ?_
            obtain ⟨wz, ez, hs⟩ := hs.storeEx #[.int .i64 a, .int .i64 v, .int .i64 0, .bool false, .string ⟨#[]⟩]
            rw [ez]
            clear ez
            refine hK.out _ _ (trivial) (fun hHeld => ?_)
            clear hK KK
            try simp only [Act.put, List.setIfInBounds_toArray, List.set_cons_zero, List.set_cons_succ]
            refine wpAnyH_done (by kernel_rfl) ?_ _
            go_wp2_with fail
            go_meet
            exact ⟨hb, rfl, hs⟩
    · obtain ⟨wy, hb, ey, eb, hs⟩ := hs.allocEx #[.int .i64 0, .int .i64 0, .int .i64 0, .bool false, .string ⟨#[]⟩] 47
      go_simp
      try rw [ey]
      try rw [eb]
      clear ey eb
      refine hK.out _ _ (trivial) (fun hHeld => ?_)
      clear hK KK
      try simp only [Act.put, List.setIfInBounds_toArray, List.set_cons_zero, List.set_cons_succ]
      refine wpAnyH_ready (rs := [2]) (by kernel_rfl) (by simp) (AllReadyH.cons (o := { dst := some 16, op := Op.call { callee := Callee.value (Operand.func 38), args := #[Operand.tmp 15], argTypes := #[9] }, type := 3, pos := "ref.go:64", after := #[{ on := 1, ground := Ground.data }], guard := none }) rfl (fun KK hK => ?_) AllReadyH.nil)
      · go_simp
        go_at_call 38
        with_reducible refine (sr_intQ _ a HA.out HL1.out hs).mono ?_
        rintro e wq ⟨rfl, hs⟩
        refine hK.out _ _ (trivial) (fun hHeld => ?_)
        clear hK KK
        try simp only [Act.put, List.setIfInBounds_toArray, List.set_cons_zero, List.set_cons_succ]
        refine wpAnyH_ready (rs := [5]) (by kernel_rfl) (by simp) (AllReadyH.cons (o := { dst := some 19, op := Op.call { callee := Callee.value (Operand.func 38), args := #[Operand.tmp 18], argTypes := #[9] }, type := 3, pos := "ref.go:64", after := #[{ on := 4, ground := Ground.data }, { on := 2, ground := Ground.chain }], guard := none }) rfl (fun KK hK => ?_) AllReadyH.nil)
        · go_simp
          go_at_call 38
          with_reducible refine (sr_intQ _ v HV.out HL2.out hs).mono ?_
          rintro e wq ⟨rfl, hs⟩
          refine hK.out _ _ (trivial) (fun hHeld => ?_)
          clear hK KK
          try simp only [Act.put, List.setIfInBounds_toArray, List.set_cons_zero, List.set_cons_succ]
          refine wpAnyH_take (i := 6) (oi := { dst := some 20, op := Op.build 47 #[(0, Operand.tmp 16), (1, Operand.tmp 19)], type := 47, pos := "ref.go:64", after := #[{ on := 2, ground := Ground.data }, { on := 5, ground := Ground.data }], guard := none }) (v := ?_) rfl (by kernel_rfl) (by kernel_rfl) (by kernel_rfl) (fun _ _ _ h => h) (Or.inl ⟨by rfl, ?_⟩) (by assumption) ?_
          rotate_left
          · intro w hSw; (try dsimp only at hSw); go_simp; try with_reducible rfl
          simp only [Act.put, List.setIfInBounds_toArray, List.set_cons_zero, List.set_cons_succ]
          refine wpAnyH_ready (rs := [8]) (by kernel_rfl) (by simp) (AllReadyH.cons (o := { dst := none, op := Op.store 47 (Operand.tmp 6) (Operand.tmp 20), type := 0, pos := "ref.go:64", after := #[{ on := 7, ground := Ground.data }, { on := 6, ground := Ground.data }, { on := 5, ground := Ground.chain }, { on := 0, ground := Ground.phase }, { on := 1, ground := Ground.phase }, { on := 2, ground := Ground.phase }, { on := 3, ground := Ground.phase }, { on := 4, ground := Ground.phase }, { on := 5, ground := Ground.phase }, { on := 6, ground := Ground.phase }, { on := 7, ground := Ground.phase }], guard := none }) rfl (fun KK hK => ?_) AllReadyH.nil)
          · rw [if_pos (by rfl)]
            refine wp_store_mid 47 (.tmp 6) (.tmp 20) rfl hb 0 #[.int .i64 a, .int .i64 v, .int .i64 0, .bool false, .string ⟨#[]⟩] (by rfl) (by rfl) hs.there (by kernel_rfl) (by simp [Value.oneCell']) ?_
            obtain ⟨wz, ez, hs⟩ := hs.storeEx #[.int .i64 a, .int .i64 v, .int .i64 0, .bool false, .string ⟨#[]⟩]
            rw [ez]
            clear ez
            refine hK.out _ _ (trivial) (fun hHeld => ?_)
            clear hK KK
            try simp only [Act.put, List.setIfInBounds_toArray, List.set_cons_zero, List.set_cons_succ]
            refine wpAnyH_done (by kernel_rfl) ?_ _
            go_wp2_with fail
            go_meet
            exact ⟨hb, rfl, hs⟩
  obtain ⟨hb, rfl, h⟩ := hcut
  clear H
  have H := Lib.hid h
  clear h
  obtain ⟨x0, x1, x2, x3, x4, y0, y1, y2, y3, y4⟩ := raw5 (b := hb) (H.out)
  obtain ⟨c0, c1, c2, c3, c4, f0, f1, f2, f3, f4⟩ := raw5 (b := nb) (H.out.p1)
  obtain ⟨p0, p1, p2, p3, p4, q0, q1, q2, q3, q4⟩ := raw5 (b := rb) (H.out.p2)
  go_wp2_with (go_at_call 29; (with_reducible refine (ref17_versions a v 0 HE.out H.out).mono ?_); rintro e wn ⟨rfl, h⟩; replace H := Lib.hid h; clear h; obtain ⟨c0, c1, c2, c3, c4, f0, f1, f2, f3, f4⟩ := raw5 (b := nb) (H.out.p1); obtain ⟨p0, p1, p2, p3, p4, q0, q1, q2, q3, q4⟩ := raw5 (b := rb) (H.out.p2))
  have hz : St W0 _ K (.raw rb #[.int .i64 0, .int .i64 0, .int .i64 0, .bool false, .string ⟨#[]⟩] 47 :: _) := (((((H.out.p2.rawSet 0 _).rawSet 1 _).rawSet 2 _).rawSet 3 _).rawSet 4 _)
  refine bodyPost_ret (results_cell_tmp2 rfl _ _ rb [.int .i64 0, .int .i64 0, .int .i64 0, .bool false, .string ⟨#[]⟩] _ rfl (St.range hz) Tryd.underlying47 rfl (by kernel_rfl)) rfl ?_
  exact ⟨rfl, hz.drop.drop.drop⟩

theorem ref04_readFixedT (t X : Bs) (v : Value) (ht : t = X) (hs : X.length ≤ 140737488355328) (hv : gotV (refixed 2 X) = v) {W0 w : World} {K : Know} {L : List Res} (h : St W0 w K L) :
    Calls Tryd.prog 39 #[.string (bb t), .int .i64 2] w fun en w' => en = .returned v ∧ St W0 w' K L := by
  subst ht; subst hv; exact ref04_readFixed t 2 hs (by decide) h

end Go.Proofs.YtngnhdiafbjfkaaDoor
