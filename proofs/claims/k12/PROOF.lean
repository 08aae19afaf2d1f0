import PyProof.Rows.All
import Wide.All
import OpenK.AllK
import Wide.FinOn
import HandS.ClsMeth
import HandS.Codes
import HandS.ForMost
import HandS.IsInst
import HandS.NoneIn
import HandS.OwnEq
import HandS.RaiseMore
import HandS.StrMore
import HandS.Text
import HandS.TupLe
import HandS.Wide
import KE.KCallOwn
import PyProof.ReprLen
import PySem.Challenge.RW_onelongturn_k12_trips_made
set_option Elab.async false
set_option linter.all false
set_option maxRecDepth 100000
set_option maxHeartbeats 2000000
set_option Elab.async false
set_option linter.all false
set_option maxRecDepth 100000
set_option maxHeartbeats 1000000
/-! Operators of own classes: an own class's special method at the left or the right of a sign. -/
namespace OL
open PySem PySem.W PySem.Calls PyProof.Rows Builtin

section
variable {prog : Program} {w : World} {A : Around} {E : Value → Shared → Prop} {s : Shared} {K : Frag} {x C L f : Addr} {h₀ : Heap} {m : Str → Option Value} {ox : Obj} {od : Option Obj}

/-- a class with the reflected method alone fills the slot -/
theorem fillsR_K {M : Model} {h : Heap} {nm : String} {cd : ClassData} {rest : List Value} (X : K.In h) (hc : clsIn K C = some cd) (hm : cd.mro = .ref C :: rest) (h0 : findIn K (.ref C) (PySem.dunder nm) = some none)
    (hs : findIn K (.ref C) (dunderR nm) = some (some (.ref f))) : Looks M h (fillsNumberSlot (.ref C) nm) true := by
  intro A Q E s k q
  unfold fillsNumberSlot
  refine wpAny_bind ((looks_clsIn X hc).andThen (f := fun cd => pure cd.mro) .now A _ E s k ?_)
  rw [hm, List.anyM_cons]
  refine wpAny_bind ?_
  show wpAny M A (List.anyM _ [PySem.dunder nm, dunderR nm]) _ _ _
  rw [List.anyM_cons]
  refine wpAny_bind (wpAny_bind (looks_findIn X h0 A _ E s k ?_))
  dsimp only
  refine wpAny_pure ?_
  rw [if_neg (by decide)]
  rw [List.anyM_cons]
  refine wpAny_bind (wpAny_bind (looks_findIn X hs A _ E s k ?_))
  dsimp only
  rw [if_pos (show (!ownNameWrapper (.ref f) (dunderR nm)) = true from rfl)]
  refine wpAny_pure ?_
  rw [if_pos rfl]
  refine wpAny_pure ?_
  rw [if_pos rfl]
  exact wpAny_pure q

/-- a op instance, a of a built-in type T that declines: the instance's reflected method answers -/
theorem rbinop1_K {nm : String} {a : Value} {T idl : String} {Q : Option Value → Shared → Prop} (F : Fr h₀ L s.heap m) (X₀ : K.In h₀) (I : InstAt s.heap x ox C od) (hc : selfFirst K C = true)
    (hfill : ∀ (cd : ClassData) (rest : List Value), clsIn K C = some cd → cd.mro = .ref C :: rest → Looks (model prog w) s.heap (fillsNumberSlot (.ref C) nm) true)
    (ha : s.TypeIs a T) (hfT : fillsNumberSlot (.type T) nm = pure true) (hsub : subIn K (.ref C) (.type T) = some false) (hl : Slot T (PySem.dunder nm) idl)
    (hs : findIn K (.ref C) (dunderR nm) = some (some (.ref f))) (hf : isFn K (.ref f) = true)
    (h : wpAny (model prog w) A (call (.builtin idl) [a, .ref x]) (fun v s₁ => v = .notImplemented ∧ s₁.heap = s.heap ∧ wpAny (model prog w) A (call (.ref f) [.ref x, a]) (PySem.W.CmpBack fun v => Q (some v)) E s₁) E s) :
    wpAny (model prog w) A (binaryOp1 nm a (.ref x)) Q E s := by
  have X := X₀.keeps F.keep
  obtain ⟨cd, hcd, hm⟩ := any_some hc
  obtain ⟨rest, hm⟩ : ∃ rest, cd.mro = .ref C :: rest := by
    cases q : cd.mro with
    | nil => rw [q] at hm; cases hm
    | cons a r => rw [q] at hm; exact ⟨r, by rw [List.head?_cons] at hm; cases (beq_iff_eq.mp hm); rfl⟩
  simp only [binaryOp1]
  refine wpAny_bind (wpAny_typeOf ha (wpAny_bind (I.type.here (wpAny_bind (wpAny_of_eq hfT ?_)))))
  have hne : (Value.type T == Value.ref C) = false := by simp
  simp only [hne, Bool.false_eq_true, if_false]
  refine wpAny_bind ((hfill cd rest hcd hm).here ?_)
  simp only [Bool.and_self, if_true]
  refine wpAny_bind ((looks_subIn X hsub).here ?_)
  have hpy : numberSlotInPython (.type T) nm = pure false := rfl
  simp only [Bool.false_eq_true, if_false, pure_bind, Bool.not_false, Bool.and_self, if_true, hpy]
  simp only [tryMethod]
  refine wpAny_bind (wpAny_bind (wpAny_callSpecial?_slot ha hl (wpAny_mono h (fun v s₁ h₁ => ?_) fun _ _ x => x)))
  obtain ⟨rfl, hh, hq⟩ := h₁
  have X1 : K.In s₁.heap := by rw [hh]; exact X
  have I1 : InstAt s₁.heap x ox C od := by rw [hh]; exact I
  refine wpAny_pure (wpAny_bind (wpAny_bind (special_fn X1 I1 hs (beq_iff_eq.mp hf) (wpAny_mono hq (fun v' s₂ h₂ => ?_) fun _ _ x => x))))
  cases v' <;> first | exact h₂.elim | exact wpAny_pure (wpAny_bind (wpAny_rule (wpAny_pure h₂)))
theorem rbinop_K {op : Operator} {a : Value} {T idl : String} {Q : Value → Shared → Prop} (F : Fr h₀ L s.heap m) (X₀ : K.In h₀) (I : InstAt s.heap x ox C od) (hc : selfFirst K C = true)
    (hfill : ∀ (cd : ClassData) (rest : List Value), clsIn K C = some cd → cd.mro = .ref C :: rest → Looks (model prog w) s.heap (fillsNumberSlot (.ref C) op.info.2) true)
    (ha : s.TypeIs a T) (hfT : fillsNumberSlot (.type T) op.info.2 = pure true) (hsub : subIn K (.ref C) (.type T) = some false) (hl : Slot T (PySem.dunder op.info.2) idl)
    (hs : findIn K (.ref C) (dunderR op.info.2) = some (some (.ref f))) (hf : isFn K (.ref f) = true)
    (h : wpAny (model prog w) A (call (.builtin idl) [a, .ref x]) (fun v s₁ => v = .notImplemented ∧ s₁.heap = s.heap ∧ wpAny (model prog w) A (call (.ref f) [.ref x, a]) (PySem.W.CmpBack Q) E s₁) E s) :
    wpAny (model prog w) A (binaryOp op a (.ref x)) Q E s := by
  rcases hi : op.info with ⟨sym, nm⟩
  rw [hi] at hfill hfT hl hs
  simp only [binaryOp, hi]
  refine wpAny_holding ?_
  refine wpAny_bind (rbinop1_K F X₀ I hc hfill ha hfT hsub hl hs hf (wpAny_mono h (fun v s₁ h₁ => ⟨h₁.1, h₁.2.1, wpAny_mono h₁.2.2 (fun v' s₂ h₂ => ?_) fun _ _ x => x⟩) fun _ _ x => x))
  cases v' <;> first | exact h₂.elim | exact wpAny_pure h₂
/-- an int slot declines an instance of an own class -/
theorem int_mod_inst {i : Int} {t : Tok} {Q : Value → Shared → Prop} (I : InstAt s.heap x ox C od) (hd : ox.data = .plain) (h : ∀ tk, Q .notImplemented { s with toks := tk }) :
    wpAny (model prog w) A (call (.builtin "int.__mod__") [.int i t, .ref x]) Q E s := by
  refine wpAny_call (codeAny_call_builtin F.slot_int_mod.plain F.entry_int_mod (F.slot_int_mod.check _ _ _ _ _ _ _ _ (typeIs_int s i t) (F.args_int_mod_2 _ _) ?_))
  obtain ⟨hp, g, d, tk, os⟩ := s
  obtain ⟨oc, odd, data, sl⟩ := ox
  simp only at hd
  subst hd
  have hl : hp.get? x = some _ := I.at_
  wp_walk
  exact h tk
theorem int_floordiv_inst {i : Int} {t : Tok} {Q : Value → Shared → Prop} (I : InstAt s.heap x ox C od) (hd : ox.data = .plain) (h : ∀ tk, Q .notImplemented { s with toks := tk }) :
    wpAny (model prog w) A (call (.builtin "int.__floordiv__") [.int i t, .ref x]) Q E s := by
  refine wpAny_call (codeAny_call_builtin F.slot_int_floordiv.plain F.entry_int_floordiv (F.slot_int_floordiv.check _ _ _ _ _ _ _ _ (typeIs_int s i t) (F.args_int_floordiv_2 _ _) ?_))
  obtain ⟨hp, g, d, tk, os⟩ := s
  obtain ⟨oc, odd, data, sl⟩ := ox
  simp only at hd
  subst hd
  have hl : hp.get? x = some _ := I.at_
  wp_walk
  exact h tk
theorem int_mul_inst {i : Int} {t : Tok} {Q : Value → Shared → Prop} (I : InstAt s.heap x ox C od) (hd : ox.data = .plain) (h : ∀ tk, Q .notImplemented { s with toks := tk }) :
    wpAny (model prog w) A (call (.builtin "int.__mul__") [.int i t, .ref x]) Q E s := by
  refine wpAny_call (codeAny_call_builtin F.slot_int_mul.plain F.entry_int_mul (F.slot_int_mul.check _ _ _ _ _ _ _ _ (typeIs_int s i t) (F.args_int_mul_2 _ _) ?_))
  obtain ⟨hp, g, d, tk, os⟩ := s
  obtain ⟨oc, odd, data, sl⟩ := ox
  simp only at hd
  subst hd
  have hl : hp.get? x = some _ := I.at_
  wp_walk
  exact h tk
/-- callSpecialIfBound? where the class's lookup finds a built-in slot -/
theorem ifBoundB_K {M : Model} {name : Str} {id : String} {args : List Value} {Q : Option Value → Shared → Prop} (X : K.In s.heap) (I : InstAt s.heap x ox C od) (hs : findIn K (.ref C) name = some (some (.builtin id)))
    (hb : ∀ self, bindSpecial (.builtin id) self = pure (.builtin id, [self]))
    (h : wpAny M A (call (.builtin id) (.ref x :: args)) (fun v => Q (some v)) E s) : wpAny M A (callSpecialIfBound? (.ref x) name args) Q E s := by
  simp only [callSpecialIfBound?, bindSpecialIfBound?]
  refine wpAny_holding (wpAny_bind (wpAny_bind (wpAny_bind (I.type.here ((looks_findIn X hs).here ?_)))))
  refine wpAny_bind (wpAny_askSetting (wpAny_ite ?_))
  have fin : wpAny M A (call (.builtin id) ([.ref x] ++ args) >>= fun v => pure (some v)) Q E s := wpAny_bind (wpAny_mono h (fun v s' h' => wpAny_pure h') fun _ _ h' => h')
  simp only [hb]
  split
  · exact wpAny_bind (wpAny_pure (wpAny_pure (by exact fin)))
  · exact wpAny_tryCatch (wpAny_bind (wpAny_pure (wpAny_pure (by exact fin))))
/-- x != b by an own __eq__ (no own __ne__) -/
theorem ne_K {b tb : Value} {Q : Value → Shared → Prop} (hu : A.units + 1 < cLine) (F : Fr h₀ L s.heap m) (X₀ : K.In h₀) (I : InstAt s.heap x ox C od) (hb : Looks (model prog w) s.heap (typeOf b) tb) (hn : notFirst K C tb = true)
    (hne : findIn K (.ref C) "__ne__" = some (some (.builtin "object.__ne__"))) (hmr : mroIn K C (.type "object") = some true)
    (hs : findIn K (.ref C) "__eq__" = some (some (.ref f))) (hf : isFn K (.ref f) = true)
    (h : wpAny (model prog w) A.in1 (call (.ref f) [.ref x, b]) (fun v s' => ∃ r, v = .bool r ∧ Q (.bool (!r)) s') E s) : wpAny (model prog w) A (richCompare .NotEq (.ref x) b) Q E s := by
  have X := X₀.keeps F.keep
  have sub : Looks (model prog w) s.heap (isInstance (.ref x) (.type "object")) true := I.type.andThen (looks_mroIn X hmr)
  have one : wpAny (model prog w) A (tryCompare (.ref x) (cmpInfo .NotEq).2.1 b) (fun r s' => ∃ v, r = some v ∧ Q v s') E s := by
    unfold tryCompare
    refine wpAny_bind (ifBoundB_K X I hne PySem.F.slot_object_ne.bind (wpAny_call (codeAny_call_builtin PySem.F.slot_object_ne.plain PySem.F.cmpEntry_ne
      (check_slot PySem.F.cmpKind_ne PySem.F.cmpSplit_ne sub (PySem.F.cmpArgs_ne _ _) ?_))))
    unfold Builtin.«object.__ne__»
    have hu' : A.in1.units < cLine := hu
    repeat (first
      | with_reducible refine wpAny_cRoomFor hu' ?_
      | (refine wpAny_bind (m := callSpecialIfBound? (.ref x) (Str.ofString "__eq__") [b])
          (ifBound_K X I hs hf (wpAny_mono h (fun r s' hr => by
            obtain ⟨b, rfl, hq⟩ := hr
            repeat (first | exact ⟨_, rfl, hq⟩ | (refine wpAny_pure ⟨_, rfl, hq⟩) | (refine wpAny_bind (m := truthy (.bool _)) (wpAny_truthy_bool ?_)) | wp_step)) fun _ _ e => e)))
      | wp_step)
  unfold richCompare
  simp only [oneThing_ref]
  refine wpAny_holding (wpAny_bind (wpAny_cRoomFor (Nat.lt_of_succ_lt hu) ?_))
  refine wpAny_bind (I.type.here (wpAny_bind (hb.here ?_)))
  split
  · rename_i q
    have e : subIn K tb (.ref C) = some false := by
      rcases Bool.or_eq_true_iff.mp hn with e | e
      · rw [beq_iff_eq.mp e] at q; simp at q
      · exact beq_iff_eq.mp e
    refine wpAny_bind ((looks_subIn X e).here ?_)
    simp only [Bool.false_eq_true, if_false]
    refine wpAny_bind (wpAny_mono one (fun r s' z => ?_) fun _ _ e => e)
    obtain ⟨v, rfl, hq⟩ := z
    exact wpAny_pure hq
  · refine wpAny_bind (wpAny_pure ?_)
    simp only [Bool.false_eq_true, if_false]
    refine wpAny_bind (wpAny_mono one (fun r s' z => ?_) fun _ _ e => e)
    obtain ⟨v, rfl, hq⟩ := z
    exact wpAny_pure hq
/-- x op b, x an instance whose own method answers, b of a built-in type -/
theorem lbinop1_K {nm : String} {b : Value} {T idr : String} {q : Option Value} {Q : Option Value → Shared → Prop} (F : Fr h₀ L s.heap m) (X₀ : K.In h₀) (I : InstAt s.heap x ox C od) (hc : selfFirst K C = true)
    (hb : s.TypeIs b T) (hfT : fillsNumberSlot (.type T) nm = pure true) (hsub : subIn K (.type T) (.ref C) = some false) (hr : Slot T (dunderR nm) idr)
    (hs : findIn K (.ref C) (PySem.dunder nm) = some (some (.ref f))) (hf : isFn K (.ref f) = true) (hsr : findIn K (.ref C) (dunderR nm) = some q)
    (hq : q = none ∨ ∃ g, q = some (.ref g))
    (h : wpAny (model prog w) A (call (.ref f) [.ref x, b]) (PySem.W.CmpBack fun v => Q (some v)) E s) : wpAny (model prog w) A (binaryOp1 nm (.ref x) b) Q E s := by
  have X := X₀.keeps F.keep
  obtain ⟨cd, hcd, hm⟩ := any_some hc
  obtain ⟨rest, hm⟩ : ∃ rest, cd.mro = .ref C :: rest := by
    cases q : cd.mro with
    | nil => rw [q] at hm; cases hm
    | cons a r => rw [q] at hm; exact ⟨r, by rw [List.head?_cons] at hm; cases (beq_iff_eq.mp hm); rfl⟩
  simp only [binaryOp1]
  refine wpAny_bind (I.type.here (wpAny_bind (wpAny_typeOf hb (wpAny_bind ((fills_K X hcd hm hs).here ?_)))))
  have hne : (Value.ref C == Value.type T) = false := by simp
  simp only [hne, Bool.false_eq_true, if_false]
  refine wpAny_bind (wpAny_of_eq hfT ?_)
  simp only [Bool.and_self, if_true]
  refine wpAny_bind ((looks_subIn X hsub).here ?_)
  simp only [Bool.false_eq_true, if_false, pure_bind, Bool.not_false, Bool.and_self, if_true]
  refine wpAny_bind ?_
  unfold numberSlotInPython
  refine wpAny_bind ((looks_findIn X hs).here ?_)
  show wpAny (model prog w) A ((pure true : Sem Bool) >>= _) _ _ _
  refine wpAny_bind (wpAny_pure (wpAny_bind ((looks_findIn X hsr).here ?_)))
  have hcr : ∃ r : Bool, calledByName (.ref C) (dunderR nm) q = pure r := by
    rcases hq with rfl | ⟨g, rfl⟩
    · exact ⟨false, rfl⟩
    · exact ⟨true, rfl⟩
  obtain ⟨r, hcr⟩ := hcr
  refine wpAny_bind (wpAny_of_eq hcr ?_)
  rw [Bool.true_or, if_pos rfl]
  refine wpAny_pure ?_
  rw [if_pos rfl]
  show wpAny (model prog w) A ((pure false : Sem Bool) >>= _) _ _ _
  refine wpAny_bind (wpAny_pure ?_)
  rw [if_pos (show (!false) = true from rfl)]
  refine wpAny_bind (wpAny_of_eq hr.lookup ?_)
  refine wpAny_bind (m := tryMethod (.ref x) _ b) ?_
  unfold tryMethod
  refine wpAny_bind (special_fn X I hs (beq_iff_eq.mp hf) (wpAny_mono h (fun v s' hv => ?_) fun _ _ e => e))
  cases v <;> first | exact hv.elim | exact wpAny_pure (wpAny_pure hv)
theorem lbinop_K {op : Operator} {b : Value} {T idr : String} {q : Option Value} {Q : Value → Shared → Prop} (F : Fr h₀ L s.heap m) (X₀ : K.In h₀) (I : InstAt s.heap x ox C od) (hc : selfFirst K C = true)
    (hb : s.TypeIs b T) (hfT : fillsNumberSlot (.type T) op.info.2 = pure true) (hsub : subIn K (.type T) (.ref C) = some false) (hr : Slot T (dunderR op.info.2) idr)
    (hs : findIn K (.ref C) (PySem.dunder op.info.2) = some (some (.ref f))) (hf : isFn K (.ref f) = true) (hsr : findIn K (.ref C) (dunderR op.info.2) = some q)
    (hq : q = none ∨ ∃ g, q = some (.ref g))
    (h : wpAny (model prog w) A (call (.ref f) [.ref x, b]) (PySem.W.CmpBack Q) E s) : wpAny (model prog w) A (binaryOp op (.ref x) b) Q E s := by
  rcases hi : op.info with ⟨sym, nm⟩
  rw [hi] at hfT hr hs hsr
  simp only [binaryOp, hi]
  refine wpAny_holding ?_
  refine wpAny_bind (lbinop1_K F X₀ I hc hb hfT hsub hr hs hf hsr hq (wpAny_mono h (fun v' s₂ h₂ => ?_) fun _ _ x => x))
  cases v' <;> first | exact h₂.elim | exact wpAny_pure h₂
end
end OL


set_option Elab.async false
set_option linter.all false
set_option maxRecDepth 100000
set_option maxHeartbeats 1000000
namespace OL
open PySem PySem.Spec PyProof.Rows L2

/-! ### room, and no repr under way -/
structure RoomG (k : Nat) (A : Around) : Prop where
  room : Room k A
  gd : A.guards = some []
theorem RoomG.mono {j k : Nat} {A : Around} (r : RoomG k A) (h : j ≤ k) : RoomG j A := ⟨r.room.mono h, r.gd⟩
theorem RoomG.in1 {k : Nat} {A : Around} (r : RoomG (k + 1) A) : RoomG k A.in1 := ⟨r.room.in1, r.gd⟩
theorem RoomG.deeper {k : Nat} {A : Around} (r : RoomG (k + 1) A) (env : Env) : RoomG k (A.deeper env) := ⟨r.room.deeper env, r.gd⟩
theorem RoomG.units {k : Nat} {A : Around} (r : RoomG k A) : A.units + 64 < cLine := r.room.units

/-- a def's promise, where no repr is under way -/
structure FnG (P : Program) (w : World) (K : PySem.W.Frag) (mg : Str → Option Value) (base : Heap) (CX : CXT) (k : Nat) (f : Addr) (fd : FuncData) (ps : List Str) (sp : Sp) : Prop where
  len : ∀ vs H Q E, sp vs H Q E → vs.length = ps.length
  run : ∀ (A : Around) (outer : List Env) (s : Shared) (H : Hp) (args : Args) (us : List Value) (vs : List V) (Q : VK) (E : XK), RoomG k A → Env0 P w K mg base A outer s H → BindsTo s fd args (ps.zip us) → Vals vs us → sp vs H Q E →
    codeAny (model P w) A (.call (.ref f) args) (CR CX outer P w H s Q E) s
theorem FnG.mono {P : Program} {w : World} {K : PySem.W.Frag} {mg : Str → Option Value} {base : Heap} {CX : CXT} {j k : Nat} {f : Addr} {fd : FuncData} {ps : List Str} {sp : Sp} (F : FnG P w K mg base CX j f fd ps sp) (h : j ≤ k) : FnG P w K mg base CX k f fd ps sp :=
  ⟨F.len, fun A outer s H args us vs Q E hr => F.run A outer s H args us vs Q E (hr.mono h)⟩

theorem fn_ofG {CX : CXT} {P : Program} {w : World} {K : PySem.W.Frag} {mg : Str → Option Value} {base : Heap} {k : Nat} {f : Addr} {name qual : Str} {params : Arguments} {body : List Stmt} {scope : Scope} {dV kV doc pm cdv ct oc : Value} {an od : Option Addr}
    {osl : Array (Option Value)} {N ps : List Str} {sp : Sp} (lk : K.lookup f = some ⟨oc, od, .func (PySem.W.fnOf name qual params body scope dV kV doc pm an cdv ct), osl⟩) (hcd : PySem.W.codeIn K cdv qual = true) (S : FnScope N ps scope)
    (len : ∀ vs H Q E, sp vs H Q E → vs.length = ps.length)
    (hbody : ∀ (A : Around) (outer : List Env) (s : Shared) (H : Hp) (vs : List V) (Q : VK) (E : XK), RoomG k (A.deeper (envOfC qual scope s.heap.objs.size f cdv)) → sp vs H Q E →
      ∃ t, PSs (cxOf CX P w K mg base N qual scope f cdv A outer s H E) body t ∧ t { nx := fun _ H' => Q .non H', rt := Q } (start N vs) H) :
    FnG P w K mg base CX (k + 1) f (PySem.W.fnOf name qual params body scope dV kV doc pm an cdv ct) ps sp := by
  refine ⟨len, fun A outer s H args us vs Q E hG env0 bnd rel want => ?_⟩
  have hr := hG.room
  have hlen := len _ _ _ _ want
  have inK : K.In s.heap := env0.mod.kin.keeps fun b o e => (env0.bs b o e).1
  have nolim : s.heap.NoLimit := env0.mod.nolimit.keeps fun b o e => (env0.bs b o e).1
  have kinds : ∀ y ∈ ps.zip us, scope.names.lookup y.1 = some .local ∨ (scope.names.lookup y.1 = some .cell ∧ ((cellsFrom (s.heap.objs.size + 1) scope.names []).lookup y.1).isSome = true) := by
    intro y hy
    obtain ⟨n, v⟩ := y
    rcases S.par n (List.of_mem_zip hy).1 with loc | cel
    · exact Or.inl loc
    · exact Or.inr ⟨cel, PySem.W.cellsFrom_some _ _ _ (Or.inl cel)⟩
  refine codeAny_call_function hr.depth (inK _ _ lk) rfl S.co S.gen rfl (PySem.W.codeRec_of inK hcd) (bnd _ _ _ _ ?_)
  refine wpAny_newFunctionEnv_cells S.kind kinds fun env eenv s1 inC => ?_
  subst eenv
  refine ⟨nolim.keeps inC.toInCall.keep, codeAny_func ?_⟩
  obtain ⟨t, ht, hq⟩ := hbody A outer s H vs Q E (hG.deeper _) want
  have J : Inv (cxOf CX P w K mg base N qual scope f cdv A outer s H E) [] (start N vs) H s1 := inv_start S hr.hd env0 hlen rel inC
  refine wpAny_mono (ht.run [] s1 (start N vs) H _ J hq) (fun fl s' got => ?_) fun e s' got => got
  cases fl with
  | ret u =>
    obtain ⟨v, σ', H', I', rv, q⟩ := got
    exact ⟨v, H', I'.os, I'.bare, I'.base, I'.hok, rv, q⟩
  | next =>
    obtain ⟨σ', H', I', q⟩ := got
    exact ⟨V.non, H', I'.os, I'.bare, I'.base, I'.hok, rfl, q⟩
  | brk =>
    obtain ⟨_, _, _, q⟩ := got
    exact q.elim
  | cont =>
    obtain ⟨_, _, _, q⟩ := got
    exact q.elim
section
variable {X : Cx} {CX : CXT} {k : Nat} {f C : Addr} {fd : FuncData} {ps : List Str} {sp : Sp} {E : XK}
/-- a callee's run from a body, or one deeper in a builtin -/
theorem run_at {A : Around} {pins : List (Addr × Obj)} {σ : L2.St} {H : Hp} {s : Shared} {Q : VK} {us : List Value} {vs : List V} (F : FnG X.prog X.w X.K X.mg X.base CX k f fd ps sp) (hr : RoomG k A) (hb : Binds X.K fd ps []) (hx : Passes CX X E)
    (I : Inv X pins σ H s) (e0 : Env0 X.prog X.w X.K X.mg X.base A X.stack s H) (r : Vals vs us) (h : sp vs H Q E) : wpAny (model X.prog X.w) A (call (.ref f) us) (EP X pins σ Q) X.xe s := by
  have hl : (us ++ []).length = ps.length := by rw [List.append_nil, ← r.length]; exact F.len _ _ _ _ h
  have bnd := hb s us I.kIn hl
  rw [List.append_nil] at bnd
  refine wpAny_call (codeAny_mono (F.run A X.stack s H ⟨us, []⟩ us vs Q E hr e0 bnd r h) fun r s' got => ?_)
  cases r with
  | error e => exact hx pins σ H s e s' I got
  | ok fl =>
    cases fl with
    | ret u => exact I.after got
    | next => exact got.elim
    | brk => exact got.elim
    | cont => exact got.elim
theorem run_g {pins : List (Addr × Obj)} {σ : L2.St} {H : Hp} {s : Shared} {Q : VK} {us : List Value} {vs : List V} (F : FnG X.prog X.w X.K X.mg X.base CX k f fd ps sp) (hr : RoomG k X.A) (hb : Binds X.K fd ps []) (hx : Passes CX X E)
    (I : Inv X pins σ H s) (r : Vals vs us) (h : sp vs H Q E) : wpAny (model X.prog X.w) X.A (call (.ref f) us) (EP X pins σ Q) X.xe s := run_at F hr hb hx I I.env0 r h
end
end OL

namespace OL
open PySem PySem.Spec PyProof.Rows L2
section
variable {X : Cx} {CX : CXT} {k : Nat} {C f : Addr} {fd : FuncData} {ps : List Str} {sp : Sp} {E : XK}

theorem not_ni {v : V} {u : Value} (r : RelV v u) : u ≠ .notImplemented := by
  intro e
  subst e
  cases v with
  | non => cases (show Value.notImplemented = Value.none from r)
  | bl b => cases (show Value.notImplemented = Value.bool b from r)
  | int i => obtain ⟨t, e⟩ := (show ∃ t, Value.notImplemented = Value.int i t from r); cases e
  | str x => obtain ⟨t, e⟩ := (show ∃ t, Value.notImplemented = Value.str x t from r); cases e
  | byt b => obtain ⟨t, e⟩ := (show ∃ t, Value.notImplemented = Value.bytes b t from r); cases e
  | flt b => obtain ⟨t, e⟩ := (show ∃ t, Value.notImplemented = Value.float b t from r); cases e
  | ref a => cases (show Value.notImplemented = Value.ref a from r)
  | ty n => cases (show Value.notImplemented = Value.type n from r)

/-- what the special method's run is wanted to leave: no NotImplemented -/
theorem back_ep {pins : List (Addr × Obj)} {σ : L2.St} {Q : VK} {u : Value} {s' : Shared} (h : EP X pins σ Q u s') : PySem.W.CmpBack (EP X pins σ Q) u s' := by
  obtain ⟨v, H', I', r, q⟩ := h
  have e := not_ni r
  cases u <;> first | exact absurd rfl e | exact ⟨v, H', I', r, q⟩

/-- i op o: o an instance of the class at C whose reflected method answers -/
def rOwnR (C : Addr) (sp : Sp) (E : XK) : R2 := fun x y H Q => ∃ i a dx fs, x = .int i ∧ y = .ref a ∧ H a = some (.ins C dx fs) ∧ sp [.ref a, .int i] H Q E
/-- o op i -/
def rOwnL (C : Addr) (sp : Sp) (E : XK) : R2 := fun x y H Q => ∃ i a dx fs, x = .ref a ∧ y = .int i ∧ H a = some (.ins C dx fs) ∧ sp [.ref a, .int i] H Q E

/-- what the written part says of a class with reflected methods -/
structure RefC (K : PySem.W.Frag) (C : Addr) : Prop where
  sf : PySem.W.selfFirst K C = true
  si : PySem.W.subIn K (.ref C) (.type "int") = some false
  is : PySem.W.subIn K (.type "int") (.ref C) = some false

theorem op_ownR_aux {op : Operator} {idl : String} (R : RefC X.K C) (F : FnG X.prog X.w X.K X.mg X.base CX k f fd ps sp) (hr : RoomG k X.A) (b : Binds X.K fd ps []) (hx : Passes CX X E)
    (hs : PySem.W.findIn X.K (.ref C) (dunderR op.info.2) = some (some (.ref f))) (hf : PySem.W.isFn X.K (.ref f) = true)
    (hl : PySem.W.findIn X.K (.ref C) (PySem.dunder op.info.2) = some none ∨ ∃ g, PySem.W.findIn X.K (.ref C) (PySem.dunder op.info.2) = some (some (.ref g)))
    (hfT : fillsNumberSlot (.type "int") op.info.2 = pure true) (hsl : Slot "int" (PySem.dunder op.info.2) idl)
    (dec : ∀ {s : Shared} {x : Addr} {ox : Obj} {od : Option Obj} {i : Int} {t : Tok} {Q : Value → Shared → Prop}, PySem.W.InstAt s.heap x ox C od → ox.data = .plain → (∀ tk, Q .notImplemented { s with toks := tk }) →
      wpAny (model X.prog X.w) X.A (call (.builtin idl) [.int i t, .ref x]) Q X.xe s) : OpR X (binaryOp op) (rOwnR C sp E) := by
  intro pins s σ H x y v u Q I rx ry h
  obtain ⟨i, a, dx, fs, rfl, rfl, ha, q⟩ := h
  obtain ⟨t, rfl⟩ := (show ∃ t, v = Value.int i t from rx)
  cases (show u = Value.ref a from ry)
  obtain ⟨mA, O, _⟩ := ins_get I.hok ha
  obtain ⟨od, J, _⟩ := O.look
  obtain ⟨m, hF⟩ := I.fr
  refine rbinop_K hF I.ok.mod.kin J R.sf (fun cd rest hcd hm => ?_) (typeIs_int s i t) hfT R.si hsl hs hf (dec J rfl fun tk => ⟨rfl, rfl, ?_⟩)
  · rcases hl with h0 | ⟨g, h0⟩
    · exact fillsR_K I.kIn hcd hm h0 hs
    · exact PySem.W.fills_K I.kIn hcd hm h0
  · refine wpAny_mono (run_g (us := [.ref a, .int i t]) (vs := [.ref a, .int i]) F hr b hx (I.tok tk) (.cons rfl (.cons ⟨t, rfl⟩ .nil)) q) (fun w s' z => back_ep z) fun _ _ z => z
theorem op_modR (R : RefC X.K C) (F : FnG X.prog X.w X.K X.mg X.base CX k f fd ps sp) (hr : RoomG k X.A) (b : Binds X.K fd ps []) (hx : Passes CX X E)
    (hs : PySem.W.findIn X.K (.ref C) "__rmod__" = some (some (.ref f))) (hf : PySem.W.isFn X.K (.ref f) = true) (hl : PySem.W.findIn X.K (.ref C) "__mod__" = some none) : OpR X (binaryOp .Mod) (rOwnR C sp E) :=
  op_ownR_aux (op := .Mod) R F hr b hx hs hf (.inl hl) PySem.F.fills_int_mod PySem.F.slot_int_mod fun J hd q => int_mod_inst J hd q
theorem op_floordivR (R : RefC X.K C) (F : FnG X.prog X.w X.K X.mg X.base CX k f fd ps sp) (hr : RoomG k X.A) (b : Binds X.K fd ps []) (hx : Passes CX X E)
    (hs : PySem.W.findIn X.K (.ref C) "__rfloordiv__" = some (some (.ref f))) (hf : PySem.W.isFn X.K (.ref f) = true) (hl : PySem.W.findIn X.K (.ref C) "__floordiv__" = some none) : OpR X (binaryOp .FloorDiv) (rOwnR C sp E) :=
  op_ownR_aux (op := .FloorDiv) R F hr b hx hs hf (.inl hl) PySem.F.fills_int_floordiv PySem.F.slot_int_floordiv fun J hd q => int_floordiv_inst J hd q
theorem op_mulR {g : Addr} (R : RefC X.K C) (F : FnG X.prog X.w X.K X.mg X.base CX k f fd ps sp) (hr : RoomG k X.A) (b : Binds X.K fd ps []) (hx : Passes CX X E)
    (hs : PySem.W.findIn X.K (.ref C) "__rmul__" = some (some (.ref f))) (hf : PySem.W.isFn X.K (.ref f) = true) (hl : PySem.W.findIn X.K (.ref C) "__mul__" = some (some (.ref g))) : OpR X (binaryOp .Mult) (rOwnR C sp E) :=
  op_ownR_aux (op := .Mult) R F hr b hx hs hf (.inr ⟨g, hl⟩) PySem.F.fills_int_mul PySem.F.slot_int_mul fun J hd q => int_mul_inst J hd q
theorem op_mulL {g : Addr} (R : RefC X.K C) (F : FnG X.prog X.w X.K X.mg X.base CX k f fd ps sp) (hr : RoomG k X.A) (b : Binds X.K fd ps []) (hx : Passes CX X E)
    (hs : PySem.W.findIn X.K (.ref C) "__mul__" = some (some (.ref f))) (hf : PySem.W.isFn X.K (.ref f) = true) (hl : PySem.W.findIn X.K (.ref C) "__rmul__" = some (some (.ref g))) : OpR X (binaryOp .Mult) (rOwnL C sp E) := by
  intro pins s σ H x y v u Q I rx ry h
  obtain ⟨i, a, dx, fs, rfl, rfl, ha, q⟩ := h
  obtain ⟨t, rfl⟩ := (show ∃ t, u = Value.int i t from ry)
  cases (show v = Value.ref a from rx)
  obtain ⟨mA, O, _⟩ := ins_get I.hok ha
  obtain ⟨od, J, _⟩ := O.look
  obtain ⟨m, hF⟩ := I.fr
  refine lbinop_K (op := .Mult) hF I.ok.mod.kin J R.sf (typeIs_int s i t) PySem.F.fills_int_mul R.is PySem.F.slot_int_rmul hs hf hl (.inr ⟨g, rfl⟩) ?_
  exact wpAny_mono (run_g (us := [.ref a, .int i t]) (vs := [.ref a, .int i]) F hr b hx I (.cons rfl (.cons ⟨t, rfl⟩ .nil)) q) (fun w s' z => back_ep z) fun _ _ z => z

/-- o == p of two instances of one class with an own == -/
def rOwnEq (C : Addr) (sp : Sp) (E : XK) : R2 := fun x y H Q => ∃ a b dx dy fs gs, x = .ref a ∧ y = .ref b ∧ H a = some (.ins C dx fs) ∧ H b = some (.ins C dy gs) ∧ sp [.ref a, .ref b] H Q E
def rOwnNe (C : Addr) (sp : Sp) (E : XK) : R2 := fun x y H Q => ∃ a b dx dy fs gs, x = .ref a ∧ y = .ref b ∧ H a = some (.ins C dx fs) ∧ H b = some (.ins C dy gs) ∧ sp [.ref a, .ref b] H (fun v H' => ∃ r, v = .bl r ∧ Q (.bl (!r)) H') E
theorem op_eqOwn (F : FnG X.prog X.w X.K X.mg X.base CX k f fd ps sp) (hr : RoomG k X.A) (b : Binds X.K fd ps []) (hx : Passes CX X E)
    (hs : PySem.W.findIn X.K (.ref C) "__eq__" = some (some (.ref f))) (hf : PySem.W.isFn X.K (.ref f) = true) : OpR X (compareOp .Eq) (rOwnEq C sp E) := by
  intro pins s σ H x y v u Q I rx ry h
  obtain ⟨a, b', dx, dy, fs, gs, rfl, rfl, ha, hb, q⟩ := h
  cases (show v = Value.ref a from rx)
  cases (show u = Value.ref b' from ry)
  obtain ⟨mA, O, _⟩ := ins_get I.hok ha
  obtain ⟨od, J, _⟩ := O.look
  obtain ⟨mB, O', _⟩ := ins_get I.hok hb
  obtain ⟨od', J', _⟩ := O'.look
  obtain ⟨m, hF⟩ := I.fr
  show wpAny (model X.prog X.w) X.A (richCompare .Eq _ _) _ _ _
  refine PySem.W.cmp_K (op := .Eq) (tb := .ref C) hr.room.units0 hF I.ok.mod.kin J J'.type (by simp [PySem.W.notFirst]) hs hf ?_
  exact wpAny_mono (run_g (us := [.ref a, .ref b']) (vs := [.ref a, .ref b']) F hr b hx I (.cons rfl (.cons rfl .nil)) q) (fun w s' z => back_ep z) fun _ _ z => z
theorem op_neOwn (F : FnG X.prog X.w X.K X.mg X.base CX k f fd ps sp) (hr : RoomG (k + 1) X.A) (b : Binds X.K fd ps []) (hx : Passes CX X E)
    (hs : PySem.W.findIn X.K (.ref C) "__eq__" = some (some (.ref f))) (hf : PySem.W.isFn X.K (.ref f) = true)
    (hne : PySem.W.findIn X.K (.ref C) "__ne__" = some (some (.builtin "object.__ne__"))) (hmr : PySem.W.mroIn X.K C (.type "object") = some true) : OpR X (compareOp .NotEq) (rOwnNe C sp E) := by
  intro pins s σ H x y v u Q I rx ry h
  obtain ⟨a, b', dx, dy, fs, gs, rfl, rfl, ha, hb, q⟩ := h
  cases (show v = Value.ref a from rx)
  cases (show u = Value.ref b' from ry)
  obtain ⟨mA, O, _⟩ := ins_get I.hok ha
  obtain ⟨od, J, _⟩ := O.look
  obtain ⟨mB, O', _⟩ := ins_get I.hok hb
  obtain ⟨od', J', _⟩ := O'.look
  obtain ⟨m, hF⟩ := I.fr
  show wpAny (model X.prog X.w) X.A (richCompare .NotEq _ _) _ _ _
  refine ne_K (tb := .ref C) (by have := hr.units; omega) hF I.ok.mod.kin J J'.type (by simp [PySem.W.notFirst]) hne hmr hs hf ?_
  refine wpAny_mono (run_at (us := [.ref a, .ref b']) (vs := [.ref a, .ref b']) F hr.in1 b hx I I.env0.in1 (.cons rfl (.cons rfl .nil)) q) (fun w s' z => ?_) fun _ _ z => z
  obtain ⟨v, H', I', r, c, e, q'⟩ := z
  subst e
  cases (show w = Value.bool c from r)
  exact ⟨c, rfl, .bl (!c), H', I', rfl, q'⟩
end
end OL

namespace OL
open PySem PySem.Spec PyProof.Rows L2
/-- a def by its body -/
theorem _root_.L2.Fun.okG {P : Program} {w : World} {K : PySem.W.Frag} {mg : Str → Option Value} {base : Heap} {x qual : Str} {st : Stmt} {f : Addr} {fd : FuncData} {N ps : List Str} {k : Nat} {sp : Sp} (F : Fun K x qual st f fd) (S : FnScope N ps (defScope st)) (len : ∀ vs H Q E, sp vs H Q E → vs.length = ps.length)
    (hbody : ∀ (cdv : Value) (A : Around) (outer : List Env) (s : Shared) (H : Hp) (vs : List V) (Q : VK) (E : XK), RoomG k (A.deeper (envOfC qual (defScope st) s.heap.objs.size f cdv)) → sp vs H Q E →
      ∃ t, PSs (cxOf CX0 P w K mg base N qual (defScope st) f cdv A outer s H E).nox (defBody st) t ∧ t { nx := fun _ H' => Q .non H', rt := Q } (start N vs) H) : FnG P w K mg base CX0 (k + 1) f fd ps sp := by
  obtain ⟨oc, od, kV, doc, pm, an, cdv, ct, osl, rfl, lk, hcd⟩ := F.ex
  refine fn_ofG lk hcd S len fun A outer s H vs Q E hG want => ?_
  obtain ⟨t, ht, q⟩ := hbody cdv A outer s H vs Q E hG want
  exact ⟨t, ht.nox, q⟩
theorem make_guards {A : Around} {C : Addr} {us : List Value} {kw : List (Str × Value)} : (A.under (.builtin "type.__call__" ⟨.ref C :: us, kw⟩)).guards = A.guards := by
  first | rfl | simp [Around.under, Code.weight, Code.isCreation, Code.isGuard, Code.isCaller, Code.frames, Code.isFrame, guardIds, Code.guards, pushGuards]
section
variable {X : Cx} {CX : CXT} {k : Nat} {f C : Addr} {fd : FuncData} {ps : List Str} {sp : Sp} {E : XK}
theorem run_mk {pins : List (Addr × Obj)} {σ : L2.St} {H : Hp} {s : Shared} {Q : VK} {us : List Value} {vs : List V} (M : Mk X.K C f) (F : FnG X.prog X.w X.K X.mg X.base CX k f fd ps sp) (hr : RoomG (k + 1) X.A) (hb : Binds X.K fd ps [])
    (hx : Passes CX X E) (I : Inv X pins σ H s) (r : Vals vs us)
    (h : ∀ x dx, H x = none → H dx = none → dx ≠ x → sp (.ref x :: vs) (upd (upd H dx (.own x)) x (.ins C dx [])) (fun v H2 => v = .non ∧ Q (.ref x) H2) E) :
    wpAny (model X.prog X.w) X.A (call (.ref C) us) (EP X pins σ Q) X.xe s := by
  have want := h (s.heap.objs.size + 1) s.heap.objs.size (I.hok.fresh (Nat.le_succ _)) (I.hok.fresh (Nat.le_refl _)) (Nat.ne_of_lt (Nat.lt_succ_self _))
  have J := Inv.made (C := C) I
  have rel : Vals (V.ref (s.heap.objs.size + 1) :: vs) (Value.ref (s.heap.objs.size + 1) :: us) := .cons rfl r
  have hlen : (Value.ref (s.heap.objs.size + 1) :: us ++ []).length = ps.length := by
    rw [List.append_nil, ← rel.length]
    exact F.len _ _ _ _ want
  have bnd := hb _ (Value.ref (s.heap.objs.size + 1) :: us) J.kIn hlen
  rw [List.append_nil] at bnd
  have rm : RoomG k (X.A.under (.builtin "type.__call__" ⟨.ref C :: us, []⟩)) := ⟨hr.room.make C us [], make_guards.trans hr.gd⟩
  refine wpAny_call (make_map (f := f) I.kIn M.makes M.init (beq_iff_eq.mp M.fn) (codeAny_mono (F.run _ X.stack _ _ ⟨Value.ref (s.heap.objs.size + 1) :: us, []⟩ _ _ _ E rm (J.env0.make C us []) bnd rel want) fun r s' got => ?_))
  cases r with
  | error e => exact hx pins σ _ _ e s' J got
  | ok fl =>
    cases fl with
    | ret u =>
      obtain ⟨v, H', I3, rv, ev, q3⟩ := J.after got
      subst ev
      exact ⟨rv, ⟨V.ref (s.heap.objs.size + 1), H', I3, rfl, q3⟩⟩
    | next => exact got.elim
    | brk => exact got.elim
    | cont => exact got.elim
end
end OL

namespace OL
open PySem PySem.Spec PyProof.Rows L2

/-! ### readings made weaker -/
theorem pe_imp {X : Cx} {e : Expr} {t t' : TE} (h : PE X e t) (i : ∀ σ H Q, t' σ H Q → t σ H Q) : PE X e t' := ⟨fun pins s σ H Q I q => h.run pins s σ H Q I (i σ H Q q)⟩

/-! ### what stands at the top: a def, a method, a class -/
structure DefT (K : PySem.W.Frag) (mg : Str → Option Value) (x : Str) (st : Stmt) (ps : List Str) : Prop where
  ex : ∃ f fd, Fun K x x st f fd ∧ mg x = some (.ref f) ∧ Binds K fd ps []
structure MethT (K : PySem.W.Frag) (C : Addr) (x qual : Str) (st : Stmt) (ps : List Str) : Prop where
  ex : ∃ f fd, Fun K x qual st f fd ∧ PySem.W.findIn K (.ref C) x = some (some (.ref f)) ∧ PySem.W.isFn K (.ref f) = true ∧ Binds K fd ps []
/-- a class of the text without special ways -/
structure ClsT (K : PySem.W.Frag) (mg : Str → Option Value) (x : Str) (C : Addr) : Prop where
  cl : Cls K C
  mkC : PySem.W.makesIn K C = true
  kp : PySem.W.keepIn K (.ref C) = true
  mgC : mg x = some (.ref C)

section
variable {P : Program} {w : World} {K : PySem.W.Frag} {mg : Str → Option Value} {base : Heap}
structure CalF (P : Program) (w : World) (K : PySem.W.Frag) (mg : Str → Option Value) (base : Heap) (k : Nat) (x : Str) (ps : List Str) (sp : Sp) : Prop where
  ex : ∃ f fd, FnG P w K mg base CX0 k f fd ps sp ∧ mg x = some (.ref f) ∧ PySem.W.keepIn K (.ref f) = true ∧ Binds K fd ps []
structure MetF (P : Program) (w : World) (K : PySem.W.Frag) (mg : Str → Option Value) (base : Heap) (k : Nat) (C : Addr) (x : Str) (ps : List Str) (sp : Sp) : Prop where
  ex : ∃ f fd, FnG P w K mg base CX0 k f fd ps sp ∧ PySem.W.findIn K (.ref C) x = some (some (.ref f)) ∧ PySem.W.isFn K (.ref f) = true ∧ PySem.W.keepIn K (.ref f) = true ∧ Binds K fd ps [] ∧ ∃ oc od osl, K.lookup f = some ⟨oc, od, .func fd, osl⟩
theorem DefT.ok {x : Str} {st : Stmt} {ps N : List Str} {k : Nat} {sp : Sp} (D : DefT K mg x st ps) (S : FnScope N ps (defScope st)) (len : ∀ vs H Q E, sp vs H Q E → vs.length = ps.length)
    (hbody : ∀ (f : Addr) (cdv : Value) (A : Around) (outer : List Env) (s : Shared) (H : Hp) (vs : List V) (Q : VK) (E : XK), RoomG k (A.deeper (envOfC x (defScope st) s.heap.objs.size f cdv)) → sp vs H Q E →
      ∃ t, PSs (cxOf CX0 P w K mg base N x (defScope st) f cdv A outer s H E).nox (defBody st) t ∧ t { nx := fun _ H' => Q .non H', rt := Q } (start N vs) H) : CalF P w K mg base (k + 1) x ps sp := by
  obtain ⟨f, fd, F, hm, b⟩ := D.ex
  exact ⟨f, fd, F.okG S len (hbody f), hm, F.kp, b⟩
theorem MethT.ok {C : Addr} {x qual : Str} {st : Stmt} {ps N : List Str} {k : Nat} {sp : Sp} (D : MethT K C x qual st ps) (S : FnScope N ps (defScope st)) (len : ∀ vs H Q E, sp vs H Q E → vs.length = ps.length)
    (hbody : ∀ (f : Addr) (cdv : Value) (A : Around) (outer : List Env) (s : Shared) (H : Hp) (vs : List V) (Q : VK) (E : XK), RoomG k (A.deeper (envOfC qual (defScope st) s.heap.objs.size f cdv)) → sp vs H Q E →
      ∃ t, PSs (cxOf CX0 P w K mg base N qual (defScope st) f cdv A outer s H E).nox (defBody st) t ∧ t { nx := fun _ H' => Q .non H', rt := Q } (start N vs) H) : MetF P w K mg base (k + 1) C x ps sp := by
  obtain ⟨f, fd, F, hm, hf, b⟩ := D.ex
  obtain ⟨oc, od, kV, doc, pm, an, cdv, ct, osl, e, lk, hcd⟩ := id F.ex
  exact ⟨f, fd, F.okG S len (hbody f), hm, hf, F.kp, b, oc, od, osl, lk⟩
end

/-- a call, a method's call, by the promise -/
def tC1 (sp : Sp) (t : TA) : TE := fun σ H Q => t σ H fun vs H1 => sp vs H1 Q E0
def tM1 (C : Addr) (m : Str) (sp : Sp) (ta : TE) (t : TA) : TE := fun σ H Q => ta σ H fun x H1 => ∃ a dx fs, x = .ref a ∧ H1 a = some (.ins C dx fs) ∧ fs.lookup m = none ∧ t σ H1 fun vs H2 => sp (x :: vs) H2 Q E0
section
variable {X : Cx} {j k : Nat} {C : Addr} {x m : Str} {ps : List Str} {sp : Sp} {p pos apos : Pos} {e o : Expr} {es : List Expr} {ta : TE} {t : TA}
theorem pe_f (c : CalF X.prog X.w X.K X.mg X.base k x ps sp) (hr : RoomG j X.A) (ha : PA X (e :: es) t) (hk : k ≤ j := by decide) (hg : Gl X x := by rfl)
    (hdb : (x == ("__debug__" : Str)) = false := by decide) (he : starEach (e :: es) X.env = (false, eval e X.env) :: starEach es X.env := by rfl) (hpl : (backTo pos (starEach es X.env)).any (·.1) = false := by rfl) :
    PE X (.Call (.Name x p) (e :: es) [] pos) (tC1 sp t) := by
  obtain ⟨f, fd, F, hm, kp, b⟩ := c.ex
  refine ⟨fun pins s σ H Q I h => ?_⟩
  refine wpAny_Call_Name_kw (ld_glob I hg hm ?_ hdb)
  refine PySem.W.callWith_K (h₀ := X.base) I.ok.mod.kin kp (thn (ha.run pos pins s σ H _ I h) fun us s1 ⟨vs, H1, I1, r, q⟩ => ⟨I1.kIn, ?_⟩) he hpl
  exact run_g F (hr.mono hk) b pass0 I1 r q
theorem pe_m {pl : Sem Bool} (c : MetF X.prog X.w X.K X.mg X.base k C m ps sp) (cl : Cls X.K C) (hr : RoomG j X.A) (he : PE X o ta) (ha : PA X (e :: es) t) (hk : k ≤ j := by decide)
    (hst : starEach (e :: es) X.env = (false, eval e X.env) :: starEach es X.env := by rfl) (hpl : (backTo pos (starEach es X.env)).any (·.1) = false := by rfl)
    (ht : eval (.Call (.Attribute o m apos) (e :: es) [] pos) X.env = (do
      let ov ← eval o X.env
      standAt apos.atName
      let (f, first) ← holding [ov] (getMethod ov m pl)
      callWith pos f first (backTo pos (starEach (e :: es) X.env)) (backToKw pos (keywordEach [] X.env))) := by rfl) :
    PE X (.Call (.Attribute o m apos) (e :: es) [] pos) (tM1 C m sp ta t) := by
  obtain ⟨f, fd, F, hm, hf, kp, b, _⟩ := c.ex
  refine ⟨fun pins s σ H Q I h => ?_⟩
  refine PySem.W.methodCall_KW (pl := pl) (thn (he.run pins s σ H _ I h) fun u s1 ⟨x, H1, I1, rx, a, dx, fs, ex, ea, l, q⟩ => ?_) ht
  subst ex
  cases (show u = Value.ref a from rx)
  refine getmeth_ok I1 ea cl ⟨hm, hf, kp⟩ l ?_
  refine PySem.W.callWith_K (first := [.ref a]) (h₀ := X.base) I.ok.mod.kin kp (thn (ha.run pos pins s1 σ H1 _ I1 q) fun us s2 ⟨vs, H2, I2, r, q2⟩ => ⟨I2.kIn, ?_⟩) hst hpl
  exact run_g (us := .ref a :: us) (vs := .ref a :: vs) F (hr.mono hk) b pass0 I2 (.cons rfl r) q2
theorem pe_m0 {pl : Sem Bool} (c : MetF X.prog X.w X.K X.mg X.base k C m ps sp) (cl : Cls X.K C) (hr : RoomG j X.A) (he : PE X o ta) (hk : k ≤ j := by decide)
    (ht : eval (.Call (.Attribute o m apos) [] [] pos) X.env = (do
      let ov ← eval o X.env
      standAt apos.atName
      let (f, first) ← holding [ov] (getMethod ov m pl)
      callWith pos f first (backTo pos (starEach [] X.env)) (backToKw pos (keywordEach [] X.env))) := by rfl) :
    PE X (.Call (.Attribute o m apos) [] [] pos) (tM1 C m sp ta tNil) := by
  obtain ⟨f, fd, F, hm, hf, kp, b, _⟩ := c.ex
  refine ⟨fun pins s σ H Q I h => ?_⟩
  refine PySem.W.methodCall_KW (pl := pl) (thn (he.run pins s σ H _ I h) fun u s1 ⟨x, H1, I1, rx, a, dx, fs, ex, ea, l, q⟩ => ?_) ht
  subst ex
  cases (show u = Value.ref a from rx)
  refine getmeth_ok I1 ea cl ⟨hm, hf, kp⟩ l ?_
  exact PySem.W.callWith_K0 (first := [.ref a]) I1.kIn kp (run_g (us := [.ref a]) (vs := [.ref a]) F (hr.mono hk) b pass0 I1 (.cons rfl .nil) q)
theorem ow_mod (R : RefC X.K C) (c : MetF X.prog X.w X.K X.mg X.base k C "__rmod__" ps sp) (hr : RoomG j X.A) (hl : PySem.W.findIn X.K (.ref C) "__mod__" = some none) (hk : k ≤ j := by decide) : OpR X (binaryOp .Mod) (rOwnR C sp E0) := by
  obtain ⟨f, fd, F, hm, hf, kp, b, _⟩ := c.ex
  exact op_modR R F (hr.mono hk) b pass0 hm hf hl
theorem ow_fdiv (R : RefC X.K C) (c : MetF X.prog X.w X.K X.mg X.base k C "__rfloordiv__" ps sp) (hr : RoomG j X.A) (hl : PySem.W.findIn X.K (.ref C) "__floordiv__" = some none) (hk : k ≤ j := by decide) : OpR X (binaryOp .FloorDiv) (rOwnR C sp E0) := by
  obtain ⟨f, fd, F, hm, hf, kp, b, _⟩ := c.ex
  exact op_floordivR R F (hr.mono hk) b pass0 hm hf hl
theorem ow_mulR {ps' : List Str} {st qual} (R : RefC X.K C) (c : MetF X.prog X.w X.K X.mg X.base k C "__rmul__" ps sp) (hr : RoomG j X.A) (l : MethT X.K C "__mul__" qual st ps') (hk : k ≤ j := by decide) : OpR X (binaryOp .Mult) (rOwnR C sp E0) := by
  obtain ⟨f, fd, F, hm, hf, kp, b, _⟩ := c.ex
  obtain ⟨g, _, _, hg, _, _⟩ := l.ex
  exact op_mulR R F (hr.mono hk) b pass0 hm hf hg
theorem ow_mulL {ps' : List Str} {st qual} (R : RefC X.K C) (c : MetF X.prog X.w X.K X.mg X.base k C "__mul__" ps sp) (hr : RoomG j X.A) (l : MethT X.K C "__rmul__" qual st ps') (hk : k ≤ j := by decide) : OpR X (binaryOp .Mult) (rOwnL C sp E0) := by
  obtain ⟨f, fd, F, hm, hf, kp, b, _⟩ := c.ex
  obtain ⟨g, _, _, hg, _, _⟩ := l.ex
  exact op_mulL R F (hr.mono hk) b pass0 hm hf hg
theorem ow_eq (c : MetF X.prog X.w X.K X.mg X.base k C "__eq__" ps sp) (hr : RoomG j X.A) (hk : k ≤ j := by decide) : OpR X (compareOp .Eq) (rOwnEq C sp E0) := by
  obtain ⟨f, fd, F, hm, hf, kp, b, _⟩ := c.ex
  exact op_eqOwn F (hr.mono hk) b pass0 hm hf
theorem ow_ne (c : MetF X.prog X.w X.K X.mg X.base k C "__eq__" ps sp) (hr : RoomG j X.A) (hne : PySem.W.findIn X.K (.ref C) "__ne__" = some (some (.builtin "object.__ne__"))) (hmr : PySem.W.mroIn X.K C (.type "object") = some true) (hk : k + 1 ≤ j := by decide) : OpR X (compareOp .NotEq) (rOwnNe C sp E0) := by
  obtain ⟨f, fd, F, hm, hf, kp, b, _⟩ := c.ex
  exact op_neOwn F (hr.mono hk) b pass0 hm hf hne hmr
end

/-! ### a, b, c = x, y, z -/
section
variable {X : Cx}
def tPar3 (i j l : Nat) (ta : TA) : TS := fun D σ H => ta σ H fun vs H1 => ∃ v w u, vs = [v, w, u] ∧ D.nx (((σ.set i (some v)).set j (some w)).set l (some u)) H1
theorem ps_par3 {i j l : Nat} {x y z : Str} {a b c : Expr} {ta : TA} {px py pz pt pos : Pos} {kt k2 pt2} (hc : X.calm = true) (hN : X.N.Nodup) (hi : X.N[i]? = some x) (hj : X.N[j]? = some y) (hl : X.N[l]? = some z) (hij : i ≠ j) (hil : i ≠ l) (hjl : j ≠ l)
    (hx : X.env.scope.names.lookup x = some .local) (hy : X.env.scope.names.lookup y = some .local) (hz : X.env.scope.names.lookup z = some .local) (ha : PA X [a, b, c] ta)
    (hw : swappedStores [.Tuple [.Name x px, .Name y py, .Name z pz] kt pt] (.Tuple [a, b, c] k2 pt2) X.env = pure (some [x, y, z]))
    (hs : swapsWithSole [.Tuple [.Name x px, .Name y py, .Name z pz] kt pt] (.Tuple [a, b, c] k2 pt2) pos.line X.env = pure false := by rfl) :
    PS X (.Assign [.Tuple [.Name x px, .Name y py, .Name z pz] kt pt] (.Tuple [a, b, c] k2 pt2) pos) (tPar3 i j l ta) := by
  refine ⟨fun pins s σ H D I h => ?_⟩
  rw [exec_Assign_arm]
  refine wpAny_bind (wpAny_standAt ?_)
  rw [hs]
  refine wpAny_bind (wpAny_pure ?_)
  rw [if_neg (by decide)]
  refine wpAny_bind (Tuple_ (thn (ha.run _ pins s σ H _ I h) fun us s1 ⟨vs, H1, I1, r1, q1⟩ => ?_))
  obtain ⟨v, v2, v3, e1, q1⟩ := q1
  subst e1
  obtain ⟨u1, u2, u3, rfl, rv, rv2, rv3⟩ : ∃ u1 u2 u3, us = [u1, u2, u3] ∧ RelV v u1 ∧ RelV v2 u2 ∧ RelV v3 u3 := by
    cases r1 with
    | cons p q =>
      cases q with
      | cons p' q' =>
        cases q' with
        | cons p'' q'' =>
          cases q''
          exact ⟨_, _, _, rfl, p, p', p''⟩
  refine wpAny_newObj_type ?_ (by show 3 ≤ sizeLine; decide)
  have I2 : Inv X pins σ H1 { s1 with heap := s1.heap.push { cls := .type "tuple", data := .seq [u1, u2, u3].toArray } } := I1.kept (t' := s1.toks) fun b o e => Heap.get?_push_of_some _ e
  rw [hw]
  refine wpAny_bind (wpAny_pure ?_)
  show wpAny (model X.prog X.w) X.A (do rule "assign.swapped-stores"; let items ← unpackItems (.ref s1.heap.objs.size) 3 none; assignInOrder [fun v => bindName X.env z v, fun v => bindName X.env y v, fun v => bindName X.env x v] items.reverse; pure Flow.next) _ _ _
  refine wpAny_bind (wpAny_rule (wpAny_bind (unpackItems_tuple (items := #[u1, u2, u3]) (I.ok.hd hc) (IsTup.new s1.heap _) fun h' hx' => ?_)))
  have I3 := I2.kept (h' := h') (t' := s1.toks) fun b o e => hx' b o (Nat.ne_of_lt (Heap.lt_size e)) e
  show wpAny _ _ (assignInOrder [fun v => bindName X.env z v, fun v => bindName X.env y v, fun v => bindName X.env x v] [u3, u2, u1] >>= fun _ => pure Flow.next) _ _ _
  refine wpAny_bind (assignInOrder_cons (wpAny_bindName (store_ok I3 hN hl (.inl hz) rv3 (fun s2 I4 => ?_) (.inr hz))))
  refine assignInOrder_cons (wpAny_bindName (store_ok I4 hN hj (.inl hy) rv2 (fun s3 I5 => ?_) (.inr hy)))
  refine assignInOrder_cons (wpAny_bindName (store_ok I5 hN hi (.inl hx) rv (fun s4 I6 => assignInOrder_nil (wpAny_pure ?_)) (.inr hx)))
  have e2 : (((σ.set l (some v3)).set j (some v2)).set i (some v)) = (((σ.set i (some v)).set j (some v2)).set l (some v3)) := by
    rw [List.set_comm _ _ hjl.symm, List.set_comm _ _ hil.symm, List.set_comm _ _ hij.symm]
  rw [e2] at I6
  exact ⟨_, H1, I6, q1⟩
end
end OL

namespace OL
open PySem PySem.Spec PyProof.Rows L2
/-- a name of the module, by its value -/
def GlT (mg : Str → Option Value) (x : Str) (v : V) : Prop := ∃ u, mg x = some u ∧ RelV v u
theorem pe_gl {X : Cx} {x : Str} {pos : Pos} {v : V} (h : GlT X.mg x v) (hg : Gl X x := by rfl) (hd : (x == ("__debug__" : Str)) = false := by decide) : PE X (.Name x pos) (tC v) := by
  obtain ⟨u, hm, r⟩ := h
  exact pe_glob hg hm r hd
/-- what isinstance asks of an own class -/
structure IsT (K : PySem.W.Frag) (C : Addr) : Prop where
  ha : PySem.W.findIn K (.ref C) "__class__" = some (some (.builtin "object.__class__"))
  hn : PySem.W.specialIn K (.builtin "object.__class__") "__get__" = some (some (.builtin "getset_descriptor.__get__"))
  htk : PySem.W.takesIn K (.builtin "object.__class__") = some true
  hm : PySem.W.mroIn K C (.type "object") = some true
section
variable {K : PySem.W.Frag} {mg : Str → Option Value} {h : Heap} {f C : Addr} {x qual : Str} {st : Stmt} {ps : List Str} {oc kV dc pm cd ct : Value} {od an : Option Addr} {sl : Array (Option Value)}
theorem DefT.of (X : K.In h) (G : h.Ns mainGlobals mg) (a : PySem.W.nsIn K mainGlobals x = some (some (.ref f))) (l : K.lookup f = some ⟨oc, od, .func (PySem.W.fnOf x x (defArgs st) (defBody st) (defScope st) .none kV dc pm an cd ct), sl⟩)
    (c : PySem.W.codeIn K cd x = true) (k : PySem.W.keepIn K (.ref f) = true)
    (b : ∀ (kV doc pm : Value) (an : Option Addr) (cdv ct : Value) (us : List Value), us.length = ps.length → bindArgs (PySem.W.fnOf x x (defArgs st) (defBody st) (defScope st) .none kV doc pm an cdv ct) ⟨us, []⟩ = pure (ps.zip us)) : DefT K mg x st ps := by
  have F := fun_mk (st := st) l c k
  exact ⟨f, _, F, PySem.W.mg_of X G a, F.binds b⟩
theorem MethT.of (a : PySem.W.findIn K (.ref C) x = some (some (.ref f))) (i : PySem.W.isFn K (.ref f) = true) (l : K.lookup f = some ⟨oc, od, .func (PySem.W.fnOf x qual (defArgs st) (defBody st) (defScope st) .none kV dc pm an cd ct), sl⟩)
    (c : PySem.W.codeIn K cd qual = true) (k : PySem.W.keepIn K (.ref f) = true)
    (b : ∀ (kV doc pm : Value) (an : Option Addr) (cdv ct : Value) (us : List Value), us.length = ps.length → bindArgs (PySem.W.fnOf x qual (defArgs st) (defBody st) (defScope st) .none kV doc pm an cdv ct) ⟨us, []⟩ = pure (ps.zip us)) : MethT K C x qual st ps := by
  have F := fun_mk (st := st) l c k
  exact ⟨f, _, F, a, i, F.binds b⟩
theorem ClsT.of (X : K.In h) (G : h.Ns mainGlobals mg) (a : PySem.W.nsIn K mainGlobals x = some (some (.ref C))) (pg : PySem.W.plainGet K C Str.empty = true) (hd : PySem.W.hasDictIn K C = true) (po : PySem.W.plainOver K C = true)
    (sa : PySem.W.findIn K (.ref C) "__setattr__" = some (some (.builtin "object.__setattr__"))) (mk : PySem.W.makesIn K C = true) (kp : PySem.W.keepIn K (.ref C) = true) : ClsT K mg x C := ⟨⟨pg, hd, po, sa⟩, mk, kp, PySem.W.mg_of X G a⟩
theorem GlT.ofI {n : Int} {t : Tok} (X : K.In h) (G : h.Ns mainGlobals mg) (a : PySem.W.nsIn K mainGlobals x = some (some (.int n t))) : GlT mg x (.int n) := ⟨_, PySem.W.mg_of X G a, ⟨t, rfl⟩⟩
end
/-! ### what a store leaves as it was -/
def But (p : Addr) (H H' : Hp) : Prop := ∀ b o, H b = some o → b ≠ p → H' b = some o
theorem But.rfl' {p : Addr} {H : Hp} : But p H H := fun _ _ e _ => e
theorem But.trans {p : Addr} {H H1 H2 : Hp} (a : But p H H1) (b : But p H1 H2) : But p H H2 := fun c o e ne => b c o (a c o e ne) ne
theorem But.of {p : Addr} {H H' : Hp} (s : Same H H') : But p H H' := fun b o e _ => s b o e
theorem But.upd {p : Addr} {H : Hp} {o : HO} : But p H (upd H p o) := fun b u e ne => by rw [upd_ne ne]; exact e
theorem But.new {p l : Addr} {H : Hp} {o : HO} (h : H l = none) : But p H (L2.upd H l o) := fun b u e ne => by rw [upd_ne (ne_of_none e h)]; exact e
end OL

namespace OL
open PySem PySem.Spec PyProof.Rows L2
theorem kit_self {K : PySem.W.Frag} (t : Value) : PySem.W.kitOne K t t = some true := by
  unfold PySem.W.kitOne
  rw [if_pos (by simp)]
theorem kit_ii {K : PySem.W.Frag} : PySem.W.kitOne K (.type "int") (.type "int") = some true := kit_ty (a := "int") (b := "int") (r := true) (by decide +kernel)
theorem kit_ib {K : PySem.W.Frag} : PySem.W.kitOne K (.type "int") (.type "bool") = some false := kit_ty (a := "int") (b := "bool") (r := false) (by decide +kernel)
end OL

namespace OL
open PySem PySem.Spec PyProof.Rows L2
theorem iteD {c : Prop} [Decidable c] {A B : Prop} (hc : c) (h : A) : if decide c = true then A else B := by
  rw [if_pos (decide_eq_true hc)]
  exact h
theorem iteDF {c : Prop} [Decidable c] {A B : Prop} (hc : ¬ c) (h : B) : if decide c = true then A else B := by
  rw [if_neg (by rw [decide_eq_true_eq]; exact hc)]
  exact h
theorem iteN {b : Bool} {A B : Prop} (hb : b = true) (h : A) : if b = true then A else B := by
  rw [if_pos hb]
  exact h
theorem iteNF {b : Bool} {A B : Prop} (hb : b = false) (h : B) : if b = true then A else B := by
  rw [hb, if_neg Bool.false_ne_true]
  exact h
end OL

namespace OL
open PySem PySem.Spec PyProof.Rows L2
theorem dp_ints {K : PySem.W.Frag} {H : Hp} : ∀ ns : List Int, DpAll K H (ns.map V.int) (ns.map PyData.int)
  | [] => .nil
  | n :: r => .cons (.int n) (dp_ints r)
theorem shaped_ints (ns : List Int) : SeqAt.shaped (.list (ns.map PyData.int)) = true := by
  have h1 : ∀ ns : List Int, PyData.canLayAll0 (ns.map PyData.int) = true := by
    intro ns
    induction ns with
    | nil => rfl
    | cons a r ih => simp only [List.map_cons, PyData.canLayAll0, PyData.canLay0, ih, Bool.and_self]
  have h2 : ∀ ns : List Int, PyData.depthAll (ns.map PyData.int) = 0 := by
    intro ns
    induction ns with
    | nil => rfl
    | cons a r ih => simp only [List.map_cons, PyData.depthAll, PyData.depth, ih, Nat.max_self]
  unfold SeqAt.shaped
  simp only [PyData.canLay0, PyData.depth, h1, h2]
  decide
theorem eqv_nil (ns : List Int) : PyData.eqv (.list (ns.map PyData.int)) (.list []) = ns.isEmpty := by
  cases ns <;> simp [PyData.eqv, PyData.eqvAll]
theorem at_ex {ns : List Int} {i : Int} (h0 : 0 ≤ i) (h : i < (ns.map V.int).length) : ∃ c, atI (ns.map V.int) i = some (.int c) := by
  rw [List.length_map] at h
  obtain ⟨j, rfl⟩ : ∃ j : Nat, i = (j : Int) := ⟨i.toNat, by omega⟩
  have hj : j < ns.length := by omega
  refine ⟨ns[j], atI_nat ?_⟩
  rw [List.getElem?_map]
  simp [hj]
theorem at_ex' {xs : List V} {i : Int} (h0 : 0 ≤ i) (h : i < xs.length) : ∃ v, v ∈ xs ∧ atI xs i = some v := by
  obtain ⟨j, rfl⟩ : ∃ j : Nat, i = (j : Int) := ⟨i.toNat, by omega⟩
  have hj : j < xs.length := by omega
  refine ⟨xs[j], List.getElem_mem hj, atI_nat ?_⟩
  simp [hj]
theorem mul_bnd {a b A B : Int} (ha : 0 ≤ a ∧ a ≤ A) (hb : 0 ≤ b ∧ b ≤ B) : 0 ≤ a * b ∧ a * b ≤ A * B :=
  ⟨Int.mul_nonneg ha.1 hb.1, Int.mul_le_mul ha.2 hb.2 hb.1 (Int.le_trans ha.1 ha.2)⟩
end OL

namespace OL
open PySem PySem.Spec PyProof.Rows L2
theorem _root_.L2.SqL.small {K : PySem.W.Frag} {H : Hp} {a : Addr} {xs : List V} (h : SqL K H a xs) : True := trivial
theorem _root_.L2.SqL.but {K : PySem.W.Frag} {H H' : Hp} {p a : Addr} {xs : List V} (h : SqL K H a xs) (b : But p H H') (ne : a ≠ p) : SqL K H' a xs := by
  rcases h with (h | ⟨o, h⟩) | h
  · exact .inl (.inl (b _ _ h ne))
  · exact .inl (.inr ⟨o, b _ _ h ne⟩)
  · exact .inr h
end OL

namespace OL
open PySem PySem.Spec PyProof.Rows L2
theorem dec_int (i j : Int) : decide (V.int i = V.int j) = decide (i = j) := by
  by_cases h : i = j
  · subst h
    simp
  · have : ¬ V.int i = V.int j := fun e => h (by injection e)
    simp [h, this]
theorem op_eqi {X : Cx} : OpR X (compareOp .Eq) (rI0 fun i j => .bl (decide (i = j))) := by
  intro pins s σ H x y v u Q I rx ry h
  obtain ⟨i, j, rfl, rfl, q⟩ := h
  exact op_eq pins s σ H _ _ v u Q I rx ry ⟨rfl, by rw [dec_int]; exact q⟩
theorem op_nei {X : Cx} : OpR X (compareOp .NotEq) (rI0 fun i j => .bl (!decide (i = j))) := by
  intro pins s σ H x y v u Q I rx ry h
  obtain ⟨i, j, rfl, rfl, q⟩ := h
  exact op_ne pins s σ H _ _ v u Q I rx ry ⟨rfl, by rw [dec_int]; exact q⟩
end OL

namespace OL
open PySem PySem.Spec PyProof.Rows L2
/-- C(..) as a call with a promise of its own: the new object is what __init__ left -/
def tNew (spm : Sp) (t : TA) : TE := fun σ H Q => t σ H fun vs H1 => spm vs H1 Q E0
structure NewF (P : Program) (w : World) (K : PySem.W.Frag) (mg : Str → Option Value) (base : Heap) (k : Nat) (x : Str) (C : Addr) (ps : List Str) (spm : Sp) : Prop where
  ex : ∃ sp, MetF P w K mg base k C "__init__" ps sp ∧ ClsT K mg x C ∧
    ∀ vs H Q, spm vs H Q E0 → ∀ p dx, H p = none → H dx = none → dx ≠ p → sp (.ref p :: vs) (upd (upd H dx (.own p)) p (.ins C dx [])) (fun v H2 => v = .non ∧ Q (.ref p) H2) E0
theorem pe_w {X : Cx} {j k : Nat} {C : Addr} {x : Str} {ps : List Str} {spm : Sp} {p pos : Pos} {e : Expr} {es : List Expr} {t : TA} (c : NewF X.prog X.w X.K X.mg X.base k x C ps spm) (hr : RoomG j X.A) (ha : PA X (e :: es) t) (hk : k + 1 ≤ j := by decide) (hg : Gl X x := by rfl)
    (hdb : (x == ("__debug__" : Str)) = false := by decide) (he : starEach (e :: es) X.env = (false, eval e X.env) :: starEach es X.env := by rfl) (hpl : (backTo pos (starEach es X.env)).any (·.1) = false := by rfl) :
    PE X (.Call (.Name x p) (e :: es) [] pos) (tNew spm t) := by
  obtain ⟨sp, m, cl, imp⟩ := c.ex
  obtain ⟨f, fd, F, hm, hf, kp, b, _⟩ := m.ex
  refine ⟨fun pins s σ H Q I h => ?_⟩
  refine wpAny_Call_Name_kw (ld_glob I hg cl.mgC ?_ hdb)
  refine PySem.W.callWith_K (h₀ := X.base) I.ok.mod.kin cl.kp (thn (ha.run pos pins s σ H _ I h) fun us s1 ⟨vs, H1, I1, r, q⟩ => ⟨I1.kIn, ?_⟩) he hpl
  exact run_mk ⟨cl.mkC, hm, hf, cl.kp⟩ F (hr.mono hk) b pass0 I1 r (imp vs H1 Q q)
end OL

namespace OL
open PySem PySem.Spec PyProof.Rows L2
/-! ### repr of data -/
/-- data that repr shows -/
structure Shw (d : PyData) : Prop where
  sh : d.showable = true
  dp : d.depth ≤ 60
  nd : d.hasDict = false
  sz : d.shown.length ≤ sizeLine
/-- repr(x), x a list or a tuple of data -/
def rRepr (K : PySem.W.Frag) : List V → Hp → VK → Prop := fun xs H Q => ∃ a d, xs = [.ref a] ∧ Dp K H (.ref a) d ∧ Shw d ∧ Q (.str d.shown) H
theorem call_reprD {X : Cx} {k : Nat} (hr : RoomG k X.A) : CallR X (.builtin "repr") (rRepr X.K) := by
  intro pins s σ H xs us Q I r h
  obtain ⟨a, d, rfl, hd, hs, q⟩ := h
  cases r with
  | cons rv rn =>
    rename_i u us'
    cases rn
    cases (show u = Value.ref a from rv)
    obtain ⟨as, rd⟩ := Dp.reads I d _ _ hd rv
    have hu := hr.units
    have hdp := hs.dp
    exact repr_of_reads' rd hs.sh (PyData.noDict_hsm hs.nd) hr.gd (by omega) (fun _ _ e => e) (fun h' u tk keep => ⟨.str d.shown, H, I.kept (h' := h') (t' := tk) keep, ⟨u, rfl⟩, q⟩) hs.sz
/-! ### the head -/
section
variable {P : Program} {w : World} {K : PySem.W.Frag} {mg mb : Str → Option Value} {CX : CXT} {k : Nat} {fa a : Addr} {fd : FuncData} {x : Str} {sp : Sp} {s₁ : Shared} {vs : List Value} {ns : List Int}
def LawEnd (s₁ : Shared) : Result → Shared → Prop := fun r s' => r = .ok (.ret (.bool true)) ∧ OldK s₁.heap s'.heap ∧ s'.os = s₁.os ∧ AllBare s'.gens
/-- from an abstract heap that tracks the script at most -/
theorem head_core (KX : K.In s₁.heap) (hns : s₁.heap.Ns mainGlobals mg) (hb : s₁.heap.Ns builtinsNs mb) (hbb : ∀ x : Str, x ≠ "__name__" → mb x = bootBuiltins x) (hlim : s₁.heap.NoLimit) (hg : s₁.gens = #[])
    (ha : s₁.heap.get? a = some { cls := .type "list", data := .seq vs.toArray }) (hr : Room k callerA)
    (F : ∀ base : Heap, K.In base → base.Ns mainGlobals mg → FnG P w K mg base CX k fa fd [x] sp) (bnd : ∀ (s : Shared) (u : Value), BindsTo s fd ⟨[u], []⟩ [(x, u)])
    (noX : ∀ H e s', CX [] H s₁ (fun _ _ _ => False) e s' → False) {H : Hp} (only : Only H) (want : sp [.ref a] H (fun v _ => v = .bl true) fun _ _ _ => False) (hok : HOk P w H s₁.heap) (hA : ∀ b, H b ≠ none → b = a) (hK : H a ≠ none → K.lookup a = none) :
    codeAny (model P w) callerA (.call (.ref fa) ⟨[.ref a], []⟩) (LawEnd s₁) s₁ := by
  have untracked : ∀ {b : Addr} {o : Obj} {es : Array DictEntry} {ep : Nat}, s₁.heap.get? b = some o → o.data = .dict es ep → H b = none := by
    intro b o es ep e d
    rcases Option.eq_none_or_eq_some (H b) with q | ⟨u, q⟩
    · exact q
    · have eb : b = a := hA b (by rw [q]; exact Option.some_ne_none u)
      rw [eb, ha] at e
      injection e with e
      rw [← e] at d
      have d2 : Data.seq vs.toArray _ = Data.dict es ep := d
      cases d2
  have nsB : ∀ {b : Addr} {m : Str → Option Value}, s₁.heap.Ns b m → (hidT s₁.heap H).Ns b m := by
    intro b m n
    obtain ⟨o, es, ep, e, d, r⟩ := n
    exact ⟨o, es, ep, hidT_get e (untracked e d), d, r⟩
  have inB : K.In (hidT s₁.heap H) := by
    intro b o e
    refine hidT_get (KX b o e) ?_
    rcases Option.eq_none_or_eq_some (H b) with q | ⟨u, q⟩
    · exact q
    · have eb : b = a := hA b (by rw [q]; exact Option.some_ne_none u)
      rw [eb] at q e
      rw [hK (by rw [q]; exact Option.some_ne_none u)] at e
      cases e
  obtain ⟨mc, l1, l2⟩ := hlim
  have md : Mod K mg (hidT s₁.heap H) := ⟨inB, nsB hns, ⟨mb, nsB hb, hbb⟩, ⟨mc, nsB l1, l2⟩⟩
  have env0 : Env0 P w K mg (hidT s₁.heap H) callerA [] s₁ H :=
    { frames := rfl, mod := md, bs := fun b o e => of_hidT e, bsz := Nat.le_of_eq (hidT_size _ _), funs := trivial, frf := fun b hb => absurd (show b ∈ ([] : List Addr) from hb) List.not_mem_nil, hok := hok, bare := .of_eq hg }
  refine codeAny_mono ((F _ inB (nsB hns)).run callerA [] s₁ H ⟨[.ref a], []⟩ [.ref a] [.ref a] _ _ ⟨hr, rfl⟩ env0 (bnd s₁ (.ref a)) (.cons rfl .nil) want) fun r s' got => ?_
  cases r with
  | error e => exact (noX H e s' got).elim
  | ok fl =>
    cases fl with
    | next => exact got.elim
    | brk => exact got.elim
    | cont => exact got.elim
    | ret u =>
      obtain ⟨v, H', eos, bare, un, hok', rv, ev⟩ := got
      have ev2 : v = .bl true := ev
      rw [ev2] at rv
      cases (show u = Value.bool true from rv)
      refine ⟨rfl, OldK.of_keep fun b o e => ?_, eos, bare⟩
      rcases only b with q | ⟨ob, xs, q⟩
      · exact un.keep b o e q (fun z => absurd (show b ∈ ([] : List Addr) from z) List.not_mem_nil) List.not_mem_nil
      · have q2 := un.frzs b ob _ q
        obtain ⟨g1, _⟩ := hok b _ q
        obtain ⟨g2, _⟩ := hok' b _ q2
        rw [e] at g1
        cases g1
        exact g2
theorem law_callG (KX : K.In s₁.heap) (hns : s₁.heap.Ns mainGlobals mg) (hb : s₁.heap.Ns builtinsNs mb) (hbb : ∀ x : Str, x ≠ "__name__" → mb x = bootBuiltins x) (hlim : s₁.heap.NoLimit) (hg : s₁.gens = #[])
    (ha : s₁.heap.get? a = some { cls := .type "list", data := .seq vs.toArray }) (hi : IntsAre vs ns) (hl : ns.length ≤ sizeLine) (hr : Room k callerA)
    (F : ∀ base : Heap, K.In base → base.Ns mainGlobals mg → FnG P w K mg base CX k fa fd [x] sp) (bnd : ∀ (s : Shared) (u : Value), BindsTo s fd ⟨[u], []⟩ [(x, u)])
    (hsp : ∀ H : Hp, Only H → SqL K H a (ns.map V.int) → sp [.ref a] H (fun v _ => v = .bl true) fun _ _ _ => False)
    (noX : ∀ H e s', CX [] H s₁ (fun _ _ _ => False) e s' → False) : codeAny (model P w) callerA (.call (.ref fa) ⟨[.ref a], []⟩) (LawEnd s₁) s₁ := by
  have rels := vals_ints hi
  have len := hi.length
  rcases Option.eq_none_or_eq_some (K.lookup a) with hk | ⟨o, hk⟩
  · have at_a : (fun b => if b = a then some (HO.frz { cls := .type "list", data := .seq vs.toArray } (.lst (ns.map V.int))) else none) a = some (HO.frz { cls := .type "list", data := .seq vs.toArray } (.lst (ns.map V.int))) := if_pos rfl
    have off : ∀ b, b ≠ a → (fun b => if b = a then some (HO.frz { cls := .type "list", data := .seq vs.toArray } (.lst (ns.map V.int))) else none) b = none := fun b n => if_neg n
    refine head_core KX hns hb hbb hlim hg ha hr F bnd noX (H := fun b => if b = a then some (HO.frz { cls := .type "list", data := .seq vs.toArray } (.lst (ns.map V.int))) else none) (fun b => ?_) (hsp _ (fun b => ?_) (.inl (.inr ⟨_, at_a⟩))) (fun b u z => ?_) (fun b z => ?_) fun _ => hk
    · by_cases n : b = a
      · exact Or.inr ⟨_, _, if_pos n⟩
      · exact Or.inl (off b n)
    · by_cases n : b = a
      · exact Or.inr ⟨_, _, if_pos n⟩
      · exact Or.inl (off b n)
    · by_cases n : b = a
      · rw [n] at z ⊢
        rw [at_a] at z
        cases z
        exact ⟨ha, by rw [List.length_map]; exact hl, vs, _, rels, ha⟩
      · rw [off b n] at z
        cases z
    · by_cases n : b = a
      · exact n
      · exact absurd (off b n) z
  · have e := KX a o hk
    rw [ha] at e
    cases e
    have none_at : ∀ b u, (fun _ : Addr => (none : Option HO)) b = some u → False := fun b u z => by cases z
    exact head_core KX hns hb hbb hlim hg ha hr F bnd noX (H := fun _ => none) (fun _ => Or.inl rfl) (hsp _ (fun _ => Or.inl rfl) (.inr ⟨_, vs.toArray, _, hk, rfl, rfl, rfl, by rw [List.size_toArray, len]; exact hl, by simpa using rels⟩)) (fun b u z => (none_at b u z).elim) (fun b z => absurd rfl z) fun z => absurd rfl z
end
theorem walk_ofG {l : PySem.W.OpenLaw} {n k : Nat} {q : Program} {loose : List Str} {XP : (Str → Option Value) → Heap → Prop} {YP : World → Heap → Prop} {d : DefRec} {K : Params → PySem.W.Frag} {CX : World → CXT} {sp : World → Sp} {x : Str}
    (hn : l.most = some n) (hn2 : n ≤ sizeLine) (hdf : d.params.defaults = []) (hr : Room k callerA)
    (hY : ∀ (w : World) (h : Heap), YP w h → (K w.params).In h)
    (F : ∀ (w : World) (mg : Str → Option Value) (fa : Addr) (h : Heap), (K w.params).In h → h.Ns mainGlobals mg → mg d.name = some (.ref fa) →
      ∃ fd : FuncData, (∀ (s : Shared) (u : Value), BindsTo s fd ⟨[u], []⟩ [(x, u)]) ∧
        ∀ base : Heap, (K w.params).In base → base.Ns mainGlobals mg → FnG l.prog w (K w.params) mg base (CX w) k fa fd [x] (sp w))
    (hsp : ∀ (w : World) (H : Hp) (a : Addr) (ns : List Int), ns.length ≤ n → Only H → SqL (K w.params) H a (ns.map V.int) → sp w [.ref a] H (fun v _ => v = .bl true) fun _ _ _ => False)
    (noX : ∀ (w : World) (H : Hp) (s : Shared) (e : Value) (s' : Shared), CX w [] H s (fun _ _ _ => False) e s' → False) : PySem.W.WalkO q loose XP YP l.row.toRowW d [] (fun f vs => PySem.call f vs) := by
  refine Att.attach_call hn hdf fun w s₀ s₁ mg mb fa o pm cd doc a vs ns G Y ho hd hcd hmg hobj hints hlen hg => ?_
  obtain ⟨fd, b, FF⟩ := F w mg fa _ (hY w _ Y) G.T.g hmg
  exact law_callG (hY w _ Y) G.T.g G.T.b G.T.builtins G.T.nolimit hg hobj hints (Nat.le_trans hlen hn2) hr FF b (fun H only at_ => hsp w H a ns hlen only at_) fun H e s' => noX w H s₁ e s'
end OL

set_option Elab.async false
set_option linter.all false
set_option maxRecDepth 100000
set_option maxHeartbeats 1000000
namespace OL
open PySem PySem.Spec PyProof.Rows L2

/-! ### keywords at a method, at a class -/
theorem run_kw {X : Cx} {CX : CXT} {k : Nat} {f : Addr} {fd : FuncData} {ps ks : List Str} {sp : Sp} {E : XK} {pins : List (Addr × Obj)} {σ : L2.St} {H : Hp} {s : Shared} {Q : VK} {us ws all : List Value} {vs : List V} (F : FnG X.prog X.w X.K X.mg X.base CX k f fd ps sp) (hr : RoomG k X.A)
    (bnd : BindsTo s fd ⟨us, ks.zip ws⟩ (ps.zip all)) (hx : Passes CX X E) (I : Inv X pins σ H s) (r : Vals vs all) (h : sp vs H Q E) : wpAny (model X.prog X.w) X.A (call (.ref f) us (ks.zip ws)) (EP X pins σ Q) X.xe s := by
  refine wpAny_call (codeAny_mono (F.run X.A X.stack s H ⟨us, ks.zip ws⟩ all vs Q E hr I.env0 bnd r h) fun r s' got => ?_)
  cases r with
  | error e => exact hx pins σ H s e s' I got
  | ok fl =>
    cases fl with
    | ret u => exact I.after got
    | next => exact got.elim
    | brk => exact got.elim
    | cont => exact got.elim
/-- how a method binds m keywords: g puts their values in the parameters' order -/
structure KwB (x qual : Str) (st : Stmt) (ps ks : List Str) (m : Nat) (g : {α : Type} → List α → List α) : Prop where
  to : ∀ (kV doc pm : Value) (an : Option Addr) (cdv ct : Value) (u : Value) (ws : List Value), ws.length = m → bindArgs (PySem.W.fnOf x qual (defArgs st) (defBody st) (defScope st) .none kV doc pm an cdv ct) ⟨[u], ks.zip ws⟩ = pure (ps.zip (u :: g ws))
  rel : ∀ {zs : List V} {ws : List Value}, Vals zs ws → zs.length = m → Vals (g zs) (g ws)
def tMk (C : Addr) (m : Str) (n : Nat) (g : {α : Type} → List α → List α) (sp : Sp) (ta : TE) (t : TA) : TE := fun σ H Q => ta σ H fun x H1 => ∃ a dx fs, x = .ref a ∧ H1 a = some (.ins C dx fs) ∧ fs.lookup m = none ∧ t σ H1 fun zs H2 => zs.length = n ∧ sp (x :: g zs) H2 Q E0
section
variable {X : Cx} {j k n : Nat} {C : Addr} {x m qual : Str} {st : Stmt} {ps ks : List Str} {sp spm : Sp} {p pos apos : Pos} {e o : Expr} {kws : List Keyword} {ta : TE} {tk : TA} {g : {α : Type} → List α → List α}
theorem pe_mk {pl : Sem Bool} (c : MetF X.prog X.w X.K X.mg X.base k C m ps sp) (D : MethT X.K C m qual st ps) (B : KwB m qual st ps ks n g) (cl : Cls X.K C) (hr : RoomG j X.A) (he : PE X o ta) (hkw : PK X kws tk) (hk : k ≤ j := by decide)
    (hall : (backToKw pos (keywordEach kws X.env)).all (·.1.isSome) = true := by rfl) (hks : (backToKw pos (keywordEach kws X.env)).filterMap (·.1) = ks := by rfl)
    (hpl : ((backTo pos (starEach [] X.env)).any (·.1) || (backToKw pos (keywordEach kws X.env)).any (·.1.isNone)) = false := by rfl)
    (ht : eval (.Call (.Attribute o m apos) [] kws pos) X.env = (do
      let ov ← eval o X.env
      standAt apos.atName
      let (f, first) ← holding [ov] (getMethod ov m pl)
      callWith pos f first (backTo pos (starEach [] X.env)) (backToKw pos (keywordEach kws X.env))) := by rfl) :
    PE X (.Call (.Attribute o m apos) [] kws pos) (tMk C m n g sp ta tk) := by
  obtain ⟨f, fd, F, hm, hf, kp, b, oc, od, osl, lk⟩ := c.ex
  obtain ⟨f', fd', G, hm', _, _⟩ := D.ex
  have ef : f' = f := by
    have z := hm'.symm.trans hm
    injection z with z
    injection z with z
    injection z with z
  subst ef
  obtain ⟨oc', od', kV, doc, pm, an, cdv, ct, osl', efd, lk', _⟩ := id G.ex
  have efd2 : fd = fd' := by
    have z := lk.symm.trans lk'
    injection z with z
    injection z with _ _ z _
    injection z with z
  subst efd2
  refine ⟨fun pins s σ H Q I h => ?_⟩
  refine PySem.W.methodCall_KW (pl := pl) (thn (he.run pins s σ H _ I h) fun u s1 ⟨x, H1, I1, rx, a, dx, fs, ex, ea, l, q⟩ => ?_) ht
  subst ex
  cases (show u = Value.ref a from rx)
  refine getmeth_ok I1 ea cl ⟨hm, hf, kp⟩ l ?_
  refine PySem.W.callWith_KW0 (first := [.ref a]) (h₀ := X.base) I.ok.mod.kin kp hall ?_ hpl
  refine thn (hkw.run pos pins s1 σ H1 _ I1 q) fun ws s2 ⟨zs, H2, I2, rz, ln, q2⟩ => ⟨I2.kIn, ?_⟩
  rw [hks]
  refine run_kw (all := .ref a :: g ws) (vs := .ref a :: g zs) F (hr.mono hk) ?_ pass0 I2 (.cons rfl (B.rel rz ln)) q2
  rw [efd]
  exact .of_eq (B.to kV doc pm an cdv ct (.ref a) ws (by rw [← rz.length]; exact ln))
end

/-! ### x in o, x not in o -/
def rOwnIn (C : Addr) (sp : Sp) : R2 := fun x y H Q => ∃ a dx fs, y = .ref a ∧ H a = some (.ins C dx fs) ∧ sp [.ref a, x] H (fun v H' => ∃ b, v = .bl b ∧ Q (.bl b) H') E0
def rOwnNotIn (C : Addr) (sp : Sp) : R2 := fun x y H Q => ∃ a dx fs, y = .ref a ∧ H a = some (.ins C dx fs) ∧ sp [.ref a, x] H (fun v H' => ∃ b, v = .bl b ∧ Q (.bl (!b)) H') E0
section
variable {X : Cx} {j k : Nat} {C : Addr} {ps : List Str} {sp : Sp}
theorem ow_in (c : MetF X.prog X.w X.K X.mg X.base k C "__contains__" ps sp) (hr : RoomG j X.A) (hk : k ≤ j := by decide) : OpR X (compareOp .In) (rOwnIn C sp) := by
  obtain ⟨f, fd, F, hm, hf, kp, b, _⟩ := c.ex
  intro pins s σ H x y v u Q I rx ry h
  obtain ⟨a, dx, fs, rfl, ha, q⟩ := h
  cases (show u = Value.ref a from ry)
  obtain ⟨mA, O, _⟩ := ins_get I.hok ha
  obtain ⟨od, J, _⟩ := O.look
  obtain ⟨m, hF⟩ := I.fr
  refine PySem.W.in_K hF I.ok.mod.kin J hm hf (wpAny_mono (run_g (us := [.ref a, v]) (vs := [.ref a, x]) F (hr.mono hk) b pass0 I (.cons rfl (.cons rx .nil)) q) (fun w s' z => ?_) fun _ _ z => z)
  obtain ⟨v', H', I', r, c', e, q'⟩ := z
  subst e
  cases (show w = Value.bool c' from r)
  exact wpAny_truthy_bool ⟨.bl c', H', I', rfl, q'⟩
theorem ow_notin (c : MetF X.prog X.w X.K X.mg X.base k C "__contains__" ps sp) (hr : RoomG j X.A) (hk : k ≤ j := by decide) : OpR X (compareOp .NotIn) (rOwnNotIn C sp) := by
  obtain ⟨f, fd, F, hm, hf, kp, b, _⟩ := c.ex
  intro pins s σ H x y v u Q I rx ry h
  obtain ⟨a, dx, fs, rfl, ha, q⟩ := h
  cases (show u = Value.ref a from ry)
  obtain ⟨mA, O, _⟩ := ins_get I.hok ha
  obtain ⟨od, J, _⟩ := O.look
  obtain ⟨m, hF⟩ := I.fr
  refine PySem.W.notIn_K hF I.ok.mod.kin J hm hf (wpAny_mono (run_g (us := [.ref a, v]) (vs := [.ref a, x]) F (hr.mono hk) b pass0 I (.cons rfl (.cons rx .nil)) q) (fun w s' z => ?_) fun _ _ z => z)
  obtain ⟨v', H', I', r, c', e, q'⟩ := z
  subst e
  cases (show w = Value.bool c' from r)
  exact wpAny_truthy_bool ⟨.bl (!c'), H', I', rfl, q'⟩
/-- o == v, o an instance with an own ==, v of a known type -/
def rOwnEqV (K : PySem.W.Frag) (C : Addr) (sp : Sp) : R2 := fun x y H Q => ∃ a dx fs t, x = .ref a ∧ H a = some (.ins C dx fs) ∧ TyX K H y t ∧ PySem.W.notFirst K C t = true ∧ sp [.ref a, y] H Q E0
end

/-! ### str(o) by an own __str__ -/
def rOwnStr (C : Addr) (sp : Sp) : List V → Hp → VK → Prop := fun xs H Q => ∃ a dx fs, xs = [.ref a] ∧ H a = some (.ins C dx fs) ∧ sp [.ref a] H (fun v H' => ∃ z, v = .str z ∧ Q (.str z) H') E0
theorem call_strOwn {X : Cx} {j k : Nat} {C : Addr} {ps : List Str} {sp : Sp} (c : MetF X.prog X.w X.K X.mg X.base k C "__str__" ps sp) (hr : RoomG j X.A) (hk : k + 2 ≤ j := by decide) : CallR X (.type "str") (rOwnStr C sp) := by
  obtain ⟨f, fd, F, hm, hf, kp, b, _⟩ := c.ex
  intro pins s σ H xs us Q I r h
  obtain ⟨a, dx, fs, rfl, ha, q⟩ := h
  cases r with
  | cons rv rn =>
    rename_i u us'
    cases rn
    cases (show u = Value.ref a from rv)
    obtain ⟨mA, O, _⟩ := ins_get I.hok ha
    obtain ⟨od, J, _⟩ := O.look
    have hr2 := hr.mono hk
    have hu := hr2.units
    refine PySem.W.kso_call (by show X.A.units + 1 + 1 < cLine; omega) I.kIn J hm hf ?_
    refine wpAny_mono (run_at (us := [.ref a]) (vs := [.ref a]) F hr2.in1.in1 b pass0 I I.env0.in1.in1 (.cons rfl .nil) q) (fun w s' z => ?_) fun _ _ z => z
    obtain ⟨v', H', I', r, c', e, q'⟩ := z
    subst e
    obtain ⟨t, e⟩ := (show ∃ t, w = Value.str c' t from r)
    subst e
    exact ⟨.str c', H', I', ⟨t, rfl⟩, q'⟩
end OL

namespace OL
open PySem PySem.Spec PyProof.Rows L2
/-! ### C(k = v, ..) -/
def tNewK (spm : Sp) (n : Nat) (g : {α : Type} → List α → List α) (t : TA) : TE := fun σ H Q => t σ H fun zs H1 => zs.length = n ∧ spm (g zs) H1 Q E0
theorem run_mkK {X : Cx} {k : Nat} {f C : Addr} {fd : FuncData} {ps ks : List Str} {sp : Sp} {pins : List (Addr × Obj)} {σ : L2.St} {H : Hp} {s : Shared} {Q : VK} {ws all : List Value} {vs : List V} (M : Mk X.K C f) (F : FnG X.prog X.w X.K X.mg X.base CX0 k f fd ps sp) (hr : RoomG (k + 1) X.A)
    (bnd : ∀ (s : Shared) (u : Value), BindsTo s fd ⟨[u], ks.zip ws⟩ (ps.zip (u :: all))) (I : Inv X pins σ H s) (r : Vals vs all)
    (h : ∀ x dx, H x = none → H dx = none → dx ≠ x → sp (.ref x :: vs) (upd (upd H dx (.own x)) x (.ins C dx [])) (fun v H2 => v = .non ∧ Q (.ref x) H2) E0) :
    wpAny (model X.prog X.w) X.A (call (.ref C) [] (ks.zip ws)) (EP X pins σ Q) X.xe s := by
  have want := h (s.heap.objs.size + 1) s.heap.objs.size (I.hok.fresh (Nat.le_succ _)) (I.hok.fresh (Nat.le_refl _)) (Nat.ne_of_lt (Nat.lt_succ_self _))
  have J := Inv.made (C := C) I
  have rel : Vals (V.ref (s.heap.objs.size + 1) :: vs) (Value.ref (s.heap.objs.size + 1) :: all) := .cons rfl r
  have hg : (X.A.under (.builtin "type.__call__" ⟨[.ref C], ks.zip ws⟩)).guards = X.A.guards := make_guards
  have rm : RoomG k (X.A.under (.builtin "type.__call__" ⟨[.ref C], ks.zip ws⟩)) := ⟨hr.room.make C [] (ks.zip ws), hg.trans hr.gd⟩
  refine wpAny_call (make_map (f := f) I.kIn M.makes M.init (beq_iff_eq.mp M.fn) (codeAny_mono (F.run _ X.stack _ _ ⟨[Value.ref (s.heap.objs.size + 1)], ks.zip ws⟩ _ _ _ E0 rm (J.env0.make C [] (ks.zip ws)) (bnd _ _) rel want) fun r s' got => ?_))
  cases r with
  | error e => exact got.elim
  | ok fl =>
    cases fl with
    | ret u =>
      obtain ⟨v, H', I3, rv, ev, q3⟩ := J.after got
      subst ev
      exact ⟨rv, ⟨V.ref (s.heap.objs.size + 1), H', I3, rfl, q3⟩⟩
    | next => exact got.elim
    | brk => exact got.elim
    | cont => exact got.elim
theorem pe_wk {X : Cx} {j k n : Nat} {C : Addr} {x qual : Str} {st : Stmt} {ps ks : List Str} {spm : Sp} {p pos : Pos} {kws : List Keyword} {tk : TA} {g : {α : Type} → List α → List α} (c : NewF X.prog X.w X.K X.mg X.base k x C ps spm) (D : MethT X.K C "__init__" qual st ps) (B : KwB "__init__" qual st ps ks n g) (hr : RoomG j X.A) (hkw : PK X kws tk) (hk : k + 1 ≤ j := by decide) (hg : Gl X x := by rfl)
    (hall : (backToKw pos (keywordEach kws X.env)).all (·.1.isSome) = true := by rfl) (hks : (backToKw pos (keywordEach kws X.env)).filterMap (·.1) = ks := by rfl) (hdb : (x == ("__debug__" : Str)) = false := by decide)
    (hpl : ((backTo pos (starEach [] X.env)).any (·.1) || (backToKw pos (keywordEach kws X.env)).any (·.1.isNone)) = false := by rfl) :
    PE X (.Call (.Name x p) [] kws pos) (tNewK spm n g tk) := by
  obtain ⟨sp, m, cl, imp⟩ := c.ex
  obtain ⟨f, fd, F, hm, hf, kp, b, oc, od, osl, lk⟩ := m.ex
  obtain ⟨f', fd', G, hm', _, _⟩ := D.ex
  have ef : f' = f := by
    have z := hm'.symm.trans hm
    injection z with z
    injection z with z
    injection z with z
  subst ef
  obtain ⟨oc', od', kV, doc, pm, an, cdv, ct, osl', efd, lk', _⟩ := id G.ex
  have efd2 : fd = fd' := by
    have z := lk.symm.trans lk'
    injection z with z
    injection z with _ _ z _
    injection z with z
  subst efd2
  refine ⟨fun pins s σ H Q I h => ?_⟩
  refine wpAny_Call_Name_kw (ld_glob I hg cl.mgC ?_ hdb)
  refine PySem.W.callWith_KW0 (h₀ := X.base) I.ok.mod.kin cl.kp hall ?_ hpl
  refine thn (hkw.run pos pins s σ H _ I h) fun ws s2 ⟨zs, H2, I2, rz, ln, q2⟩ => ⟨I2.kIn, ?_⟩
  rw [hks]
  refine run_mkK (vs := g zs) (all := g ws) ⟨cl.mkC, hm, hf, cl.kp⟩ F (hr.mono hk) (fun s u => ?_) I2 (B.rel rz ln) (imp _ _ _ q2)
  rw [efd]
  exact .of_eq (B.to kV doc pm an cdv ct u ws (by rw [← rz.length]; exact ln))
end OL

set_option Elab.async false
set_option linter.all false
set_option maxRecDepth 100000
set_option maxHeartbeats 1000000
namespace OL
open PySem PySem.W PySem.Calls PyProof.Rows Builtin
open AutoSeq1 (wpAny_loadPart')
open MeetsSeq
section
variable {prog : Program} {w : World} {A : Around} {E : Value → Shared → Prop} {s : Shared} {K : Frag} {x C L f : Addr} {h₀ : Heap} {m : Str → Option Value} {ox : Obj} {od : Option Obj}
/-- v == x where v's own slot declines: the instance's == answers -/
theorem rcmp_K {a : Value} {T id : String} {Q : Value → Shared → Prop} (hu : A.units < cLine) (F : Fr h₀ L s.heap m) (X₀ : K.In h₀) (I : InstAt s.heap x ox C od) (ha : s.TypeIs a T) (hone : oneThing? .Eq a (.ref x) = none)
    (hsl : Slot T "__eq__" id) (hsub : subIn K (.ref C) (.type T) = some false) (hs : findIn K (.ref C) "__eq__" = some (some (.ref f))) (hf : isFn K (.ref f) = true)
    (h : wpAny (model prog w) A (call (.builtin id) [a, .ref x]) (fun v s₁ => v = .notImplemented ∧ s₁.heap = s.heap ∧ wpAny (model prog w) A (call (.ref f) [.ref x, a]) (PySem.W.CmpBack Q) E s₁) E s) :
    wpAny (model prog w) A (richCompare .Eq a (.ref x)) Q E s := by
  have X := X₀.keeps F.keep
  unfold richCompare
  simp only [hone]
  refine wpAny_holding (wpAny_bind (wpAny_cRoomFor hu ?_))
  refine wpAny_bind (wpAny_typeOf ha (wpAny_bind (I.type.here ?_)))
  have hne : (Value.type T != Value.ref C) = true := by simp
  rw [if_pos hne]
  refine wpAny_bind ((looks_subIn X hsub).here ?_)
  simp only [Bool.false_eq_true, if_false]
  refine wpAny_bind (wpAny_tryCompare_declines ha hsl (wpAny_mono h (fun v s₁ h₁ => ?_) fun _ _ e => e))
  obtain ⟨rfl, hh, hq⟩ := h₁
  refine ⟨rfl, ?_⟩
  simp only [Bool.not_false, if_true]
  have X1 : K.In s₁.heap := by rw [hh]; exact X
  have I1 : InstAt s₁.heap x ox C od := by rw [hh]; exact I
  have one : wpAny (model prog w) A (tryCompare (.ref x) (cmpInfo .Eq).2.2 a) (fun r s' => ∃ v, r = some v ∧ Q v s') E s₁ := by
    unfold tryCompare
    refine wpAny_bind (ifBound_K X1 I1 hs hf (wpAny_mono hq (fun v s' hv => ?_) fun _ _ e => e))
    cases v <;> first | exact hv.elim | exact wpAny_pure ⟨_, rfl, hv⟩
  refine wpAny_bind (wpAny_mono one (fun r s' z => ?_) fun _ _ e => e)
  obtain ⟨v, rfl, hq⟩ := z
  exact wpAny_pure hq
theorem int_eq_inst {i : Int} {t : Tok} {Q : Value → Shared → Prop} (I : InstAt s.heap x ox C od) (hd : ox.data = .plain) (h : ∀ tk, Q .notImplemented { s with toks := tk }) :
    wpAny (model prog w) A (call (.builtin "int.__eq__") [.int i t, .ref x]) Q E s := by
  refine wpAny_call (codeAny_call_builtin PySem.F.slot_int_eq.plain PySem.F.entry_int_eq (PySem.F.slot_int_eq.check _ _ _ _ _ _ _ _ (typeIs_int s i t) (PySem.F.args_int_eq_2 _ _) ?_))
  obtain ⟨hp, g, d, tk, os⟩ := s
  obtain ⟨oc, odd, data, sl⟩ := ox
  simp only at hd
  subst hd
  have hl : hp.get? x = some _ := I.at_
  wp_walk
  exact h tk
theorem str_eq_inst {i : Str} {t : Tok} {Q : Value → Shared → Prop} (I : InstAt s.heap x ox C od) (hd : ox.data = .plain) (h : ∀ tk, Q .notImplemented { s with toks := tk }) :
    wpAny (model prog w) A (call (.builtin "str.__eq__") [.str i t, .ref x]) Q E s := by
  refine wpAny_call (codeAny_call_builtin PySem.F.slot_str_eq.plain PySem.F.entry_str_eq (PySem.F.slot_str_eq.check _ _ _ _ _ _ _ _ (typeIs_str s i t) (PySem.F.args_str_eq_2 _ _) ?_))
  obtain ⟨hp, g, d, tk, os⟩ := s
  obtain ⟨oc, odd, data, sl⟩ := ox
  simp only at hd
  subst hd
  have hl : hp.get? x = some _ := I.at_
  wp_walk
  exact h tk
theorem none_eq_inst {Q : Value → Shared → Prop} (h : ∀ tk, Q .notImplemented { s with toks := tk }) :
    wpAny (model prog w) A (call (.builtin "NoneType.__eq__") [.none, .ref x]) Q E s := by
  refine wpAny_call (codeAny_call_builtin PySem.F.slot_NoneType_eq.plain PySem.F.entry_NoneType_eq (PySem.F.slot_NoneType_eq.check _ _ _ s _ _ _ _ (show s.TypeIs .none "NoneType" from rfl) (PySem.F.args_NoneType_eq_2 _ _) ?_))
  obtain ⟨hp, g, d, tk, os⟩ := s
  wp_walk
  exact h tk
theorem list_eq_inst {l : Addr} {items : Array Value} {n : Nat} {dd : Option Addr} {sl : Array (Option Value)} {Q : Value → Shared → Prop} (X : K.In s.heap) (I : InstAt s.heap x ox C od) (hm : mroIn K C (.type "list") = some false)
    (hl : s.heap.get? l = some { cls := .type "list", dict := dd, data := .seq items n, slots := sl }) (h : ∀ tk, Q .notImplemented { s with toks := tk }) :
    wpAny (model prog w) A (call (.builtin "list.__eq__") [.ref l, .ref x]) Q E s := by
  have sub : Looks (model prog w) s.heap (isInstance (.ref x) (.type "list")) false := I.type.andThen (looks_mroIn X hm)
  refine wpAny_call (codeAny_call_builtin PySem.F.slot_list_eq.plain PySem.F.entry_list_eq (PySem.F.slot_list_eq.check _ _ _ _ _ _ _ _ ⟨_, hl, rfl⟩ (PySem.F.args_list_eq_2 _ _) ?_))
  obtain ⟨hp, g, d, tk, os⟩ := s
  repeat (first | with_reducible refine sub.at ?_ | wp_step)
  exact h tk
theorem tuple_eq_inst {l : Addr} {items : Array Value} (X : K.In s.heap) {Q : Value → Shared → Prop} (I : InstAt s.heap x ox C od) (hm : mroIn K C (.type "tuple") = some false)
    (hl : s.TypeIs (.ref l) "tuple") (h : ∀ tk, Q .notImplemented { s with toks := tk }) :
    wpAny (model prog w) A (call (.builtin "tuple.__eq__") [.ref l, .ref x]) Q E s := by
  have sub : Looks (model prog w) s.heap (isInstance (.ref x) (.type "tuple")) false := I.type.andThen (looks_mroIn X hm)
  refine wpAny_call (codeAny_call_builtin PySem.F.slot_tuple_eq.plain PySem.F.entry_tuple_eq (PySem.F.slot_tuple_eq.check _ _ _ _ _ _ _ _ hl (PySem.F.args_tuple_eq_2 _ _) ?_))
  obtain ⟨hp, g, d, tk, os⟩ := s
  repeat (first | with_reducible refine sub.at ?_ | wp_step)
  exact h tk
theorem eqBool_anyG {a : Value} {Q : Bool → Shared → Prop} (hne : (a == .ref x) = false) (h : wpAny (model prog w) A (richCompare .Eq a (.ref x)) (fun v s' => ∃ r, v = .bool r ∧ Q r s') E s) : wpAny (model prog w) A (eqBool a (.ref x)) Q E s := by
  unfold eqBool
  refine wpAny_holding ?_
  rw [hne]
  refine wpAny_ite_split (fun z => by cases z) (fun _ => ?_)
  have fin : wpAny (model prog w) A (do let v ← richCompare .Eq a (.ref x); truthOfDropped v) Q E s := by
    refine wpAny_bind (wpAny_mono h (fun v s' hv => ?_) fun _ _ x => x)
    obtain ⟨r, rfl, q⟩ := hv
    exact wpAny_truthy_bool q
  cases a <;> exact fin
/-- x in a list: item by item, all of them unequal -/
theorem contains_loopF {R : Result → Shared → Prop} (l : Addr) (y : Value) (N : Nat) (J : Nat → Shared → Prop)
    (hl : ∀ i s, J i s → ∃ (items : Array Value) (n : Nat), s.heap.get? l = some { cls := .type "list", data := .seq items n } ∧ items.size = N ∧ ∀ h : i < items.size, wpAny (model prog w) A.in1 (eqBool items[i] y) (fun r s' => r = false ∧ J (i + 1) s') (fun e s' => R (.error e) s') s)
    (fin : ∀ s, J N s → R (.ok (.ret (.bool false))) s) (k : Nat) :
    ∀ i : Nat, N - i = k → i ≤ N → ∀ s, J i s → wpAny (model prog w) A.in1 (Builtin.«list.__contains__.loop» ⟨[.ref l, y, rawInt i], []⟩) (GQ.FinOf prog w A R) (fun e s' => R (.error e) s') s := by
  induction k with
  | zero =>
    intro i hk hi s h
    obtain ⟨items, n, ho, hs, _⟩ := hl _ _ h
    have ei : i = N := by omega
    have last : R (.ok (.ret (.bool false))) s := fin s (ei ▸ h)
    obtain ⟨hp, g, d, tk, os⟩ := s
    wp_walk using wpAny_loadPart' ho
    have out : items[((i : Nat) : Int).toNat]? = none := by simp; omega
    rw [out]
    wp_walk
    exact last
  | succ k ih =>
    intro i hk hi s h
    obtain ⟨items, n, ho, hs, turn⟩ := hl _ _ h
    have hlt : i < items.size := by omega
    have one := turn hlt
    obtain ⟨hp, g, d, tk, os⟩ := s
    wp_walk using wpAny_loadPart' ho
    have here : items[((i : Nat) : Int).toNat]? = some items[i] := by simp [hlt]
    have step : ((i : Int) + 1) = ((i + 1 : Nat) : Int) := by omega
    rw [here]
    refine wpAny_bind (wpAny_mono one (fun r s2 h2 => ?_) fun _ _ x => x)
    obtain ⟨er, h2⟩ := h2
    subst er
    have more := ih (i + 1) (by omega) (by omega) s2 h2
    obtain ⟨hp2, g2, d2, tk2, os2⟩ := s2
    wp_walk
    rw [step]
    exact ⟨plainId_quiet plain_contains_loop _, codeAny_builtin entry_contains_loop (by
      rw [Around.under_plainId plain_contains_loop _]
      exact more)⟩
theorem in_listF {l : Addr} {N : Nat} {y : Value} {Q : Value → Shared → Prop} (J : Nat → Shared → Prop)
    (hl : ∀ i s, J i s → ∃ (items : Array Value) (n : Nat), s.heap.get? l = some { cls := .type "list", data := .seq items n } ∧ items.size = N ∧ ∀ h : i < items.size, wpAny (model prog w) A.in1 (eqBool items[i] y) (fun r s' => r = false ∧ J (i + 1) s') E s)
    (fin : ∀ s, J N s → Q (.bool false) s) (h : J 0 s) : wpAny (model prog w) A (compareOp .In y (.ref l)) Q E s := by
  obtain ⟨items, n, ho, hs, _⟩ := hl _ _ h
  refine In_slot ⟨_, ho, rfl⟩ PySem.F.slot_list_contains (GQ.call_here PySem.F.slot_list_contains ⟨_, ho, rfl⟩ PySem.F.entry_list_contains (PySem.F.args_list_contains_2 _ _) ?_)
  have run := contains_loopF (A := A) (R := wants (fun r s' => wpAny (model prog w) A (truthy r) (fun b s'' => Q (.bool b) s'') E s') E) l y N J hl (fun s z => wpAny_truthy_bool (fin s z)) _ 0 rfl (Nat.zero_le _) s h
  obtain ⟨hp, g, d, tk, os⟩ := s
  wp_walk using wpAny_loadPart' ho
  exact ⟨plainId_quiet plain_contains_loop _, codeAny_builtin entry_contains_loop (by
    rw [Around.under_plainId plain_contains_loop _]
    exact run)⟩
end
end OL

namespace OL
open PySem PySem.Spec PyProof.Rows L2
/-- a value that is no instance: an int, a text, None, a list, a tuple -/
inductive OddV (H : Hp) : V → Prop
  | int (i : Int) : OddV H (.int i)
  | str (z : Str) : OddV H (.str z)
  | non : OddV H .non
  | lst {a : Addr} {xs : List V} : H a = some (.lst xs) → OddV H (.ref a)
  | tup {a : Addr} {xs : List V} : H a = some (.tup xs) → OddV H (.ref a)
/-- what the written part says of the class for these -/
structure OddC (K : PySem.W.Frag) (C : Addr) : Prop where
  si : PySem.W.subIn K (.ref C) (.type "int") = some false
  ss : PySem.W.subIn K (.ref C) (.type "str") = some false
  sn : PySem.W.subIn K (.ref C) (.type "NoneType") = some false
  sl : PySem.W.subIn K (.ref C) (.type "list") = some false
  st : PySem.W.subIn K (.ref C) (.type "tuple") = some false
  ml : PySem.W.mroIn K C (.type "list") = some false
  mt : PySem.W.mroIn K C (.type "tuple") = some false
theorem OddV.ext {H H' : Hp} {y : V} (o : OddV H y) (e : Ext H H') : OddV H' y := by
  cases o with
  | int i => exact .int i
  | str z => exact .str z
  | non => exact .non
  | lst h => exact .lst (e _ _ h)
  | tup h => exact .tup (e _ _ h)
section
variable {X : Cx} {j k : Nat} {C : Addr} {ps : List Str} {sp : Sp}
theorem odd_eq {A : Around} {pins : List (Addr × Obj)} {σ : L2.St} {H : Hp} {s : Shared} {y : V} {u : Value} {d dx : Addr} {fs : List (Str × V)} {f : Addr} {fd : FuncData} (F : FnG X.prog X.w X.K X.mg X.base CX0 k f fd ps sp) (O : OddC X.K C) (hr : RoomG k A)
    (hm : PySem.W.findIn X.K (.ref C) "__eq__" = some (some (.ref f))) (hf : PySem.W.isFn X.K (.ref f) = true) (b : Binds X.K fd ps []) (fr : A.frames = X.A.frames)
    (I : Inv X pins σ H s) (ry : RelV y u) (hd : H d = some (.ins C dx fs)) (o : OddV H y) (q : sp [.ref d, y] H (fun v H2 => v = .bl false ∧ Ext H H2) E0) :
    wpAny (model X.prog X.w) A (eqBool u (.ref d)) (fun r s' => r = false ∧ ∃ H', Inv X pins σ H' s' ∧ Ext H H') X.xe s := by
  obtain ⟨mA, Oj, _⟩ := ins_get I.hok hd
  obtain ⟨od, J, _⟩ := Oj.look
  obtain ⟨m, hF⟩ := I.fr
  have own : ∀ tk, wpAny (model X.prog X.w) A (call (.ref f) [.ref d, u]) (PySem.W.CmpBack fun v s' => ∃ r, v = .bool r ∧ (r = false ∧ ∃ H', Inv X pins σ H' s' ∧ Ext H H')) X.xe { s with toks := tk } := by
    intro tk
    have I1 := I.tok tk
    have e0 : Env0 X.prog X.w X.K X.mg X.base A X.stack { s with toks := tk } H := by
      have e := I1.env0
      exact ⟨by rw [fr]; exact e.frames, e.mod, e.bs, e.bsz, e.funs, e.frf, e.hok, e.bare⟩
    refine wpAny_mono (run_at (us := [.ref d, u]) (vs := [.ref d, y]) F hr b pass0 I1 e0 (.cons rfl (.cons ry .nil)) q) (fun w s' z => ?_) fun _ _ z => z
    obtain ⟨v, H', I', r, ev, ex⟩ := z
    subst ev
    cases (show w = Value.bool false from r)
    exact ⟨false, rfl, rfl, H', I', ex⟩
  have hu := hr.room.units0
  cases o with
  | int i =>
    obtain ⟨t, rfl⟩ := (show ∃ t, u = Value.int i t from ry)
    exact eqBool_anyG rfl (rcmp_K hu hF I.ok.mod.kin J (typeIs_int s i t) rfl PySem.F.slot_int_eq O.si hm hf (int_eq_inst J rfl fun tk => ⟨rfl, rfl, own tk⟩))
  | str z =>
    obtain ⟨t, rfl⟩ := (show ∃ t, u = Value.str z t from ry)
    exact eqBool_anyG rfl (rcmp_K hu hF I.ok.mod.kin J (typeIs_str s z t) rfl PySem.F.slot_str_eq O.ss hm hf (str_eq_inst J rfl fun tk => ⟨rfl, rfl, own tk⟩))
  | non =>
    cases (show u = Value.none from ry)
    exact eqBool_anyG rfl (rcmp_K hu hF I.ok.mod.kin J (show s.TypeIs .none "NoneType" from rfl) rfl PySem.F.slot_NoneType_eq O.sn hm hf (none_eq_inst fun tk => ⟨rfl, rfl, own tk⟩))
  | @lst a xs h =>
    cases (show u = Value.ref a from ry)
    obtain ⟨_, its, n, _, h1⟩ := (show ObjOk X.prog X.w H s.heap a (.lst xs) from I.hok a _ h)
    have nad : a ≠ d := ne_of h hd (by intro z; cases z)
    exact eqBool_anyG (by simpa using nad) (rcmp_K hu hF I.ok.mod.kin J ⟨_, h1, rfl⟩ rfl PySem.F.slot_list_eq O.sl hm hf (list_eq_inst I.kIn J O.ml h1 fun tk => ⟨rfl, rfl, own tk⟩))
  | @tup a xs h =>
    cases (show u = Value.ref a from ry)
    obtain ⟨_, its, _, ob, h1, h2, _⟩ := (show ObjOk X.prog X.w H s.heap a (.tup xs) from I.hok a _ h)
    have nad : a ≠ d := ne_of h hd (by intro z; cases z)
    exact eqBool_anyG (by simpa using nad) (rcmp_K hu hF I.ok.mod.kin J ⟨ob, h1, h2⟩ rfl PySem.F.slot_tuple_eq O.st hm hf (tuple_eq_inst (items := #[]) I.kIn J O.mt ⟨ob, h1, h2⟩ fun tk => ⟨rfl, rfl, own tk⟩))
/-- o in [..], none of its items an instance, each of them unequal by the own == -/
def rInOdd (C : Addr) (sp : Sp) : R2 := fun x y H Q => ∃ d dx fs a xs, x = .ref d ∧ y = .ref a ∧ H d = some (.ins C dx fs) ∧ H a = some (.lst xs) ∧ (∀ z ∈ xs, OddV H z) ∧
  (∀ z ∈ xs, ∀ H', Ext H H' → sp [.ref d, z] H' (fun v H2 => v = .bl false ∧ Ext H' H2) E0) ∧ ∀ H', Ext H H' → Q (.bl false) H'
theorem ow_inOdd (c : MetF X.prog X.w X.K X.mg X.base k C "__eq__" ps sp) (O : OddC X.K C) (hr : RoomG j X.A) (hk : k + 1 ≤ j := by decide) : OpR X (compareOp .In) (rInOdd C sp) := by
  obtain ⟨f, fd, F, hm, hf, kp, b, _⟩ := c.ex
  intro pins s σ H x y v u Q I rx ry h
  obtain ⟨d, dx, fs, a, xs, rfl, rfl, hd, ha, odd, own, q⟩ := h
  cases (show v = Value.ref d from rx)
  cases (show u = Value.ref a from ry)
  refine in_listF (N := xs.length) (fun _ s' => ∃ H', Inv X pins σ H' s' ∧ Ext H H') (fun i s' z => ?_) (fun s' z => ?_) ⟨H, I, Ext.rfl'⟩
  · obtain ⟨H1, I1, e1⟩ := z
    obtain ⟨zz, its, n, r, e⟩ := I1.hok a _ (e1 _ _ ha)
    refine ⟨its.toArray, n, e, by rw [List.size_toArray, ← r.length], fun hlt => ?_⟩
    have hi : i < its.length := by simpa using hlt
    have hx : i < xs.length := by rw [r.length]; exact hi
    obtain ⟨w, hw, rw'⟩ := r.get (List.getElem?_eq_getElem hx)
    have ew : its.toArray[i] = w := by
      have z : its[i]? = some its.toArray[i] := by rw [List.getElem?_eq_getElem hi]; simp
      rw [z] at hw
      exact Option.some.inj hw
    rw [ew]
    have mem : xs[i] ∈ xs := List.getElem_mem hx
    refine wpAny_mono (odd_eq F O ((hr.mono hk).in1) hm hf b rfl I1 rw' (e1 _ _ hd) ((odd _ mem).ext e1) (own _ mem H1 e1)) (fun r s2 z => ?_) fun _ _ z => z
    obtain ⟨er, H2, I2, e2⟩ := z
    exact ⟨er, H2, I2, e1.trans e2⟩
  · obtain ⟨H1, I1, e1⟩ := z
    exact ⟨.bl false, H1, I1, rfl, q H1 e1⟩
end
end OL

set_option Elab.async false
set_option linter.all false
set_option maxRecDepth 100000
set_option maxHeartbeats 1000000
namespace OL
open PySem PySem.Spec PyProof.Rows L2
/-! ### kinds of values -/
theorem kit_own {K : PySem.W.Frag} {C : Addr} {T : String} {b : Bool} (h : PySem.W.subIn K (.ref C) (.type T) = some b) (hk : PySem.W.kitMeta T = true := by decide +kernel) : PySem.W.kitOne K (.ref C) (.type T) = some b := by
  unfold PySem.W.kitOne
  rw [if_neg (by simp)]
  show (if PySem.W.kitMeta T = true then _ else _) = _
  rw [if_pos hk]
  exact h
theorem kit_to {K : PySem.W.Frag} {C : Addr} {T : String} {b : Bool} (hc : PySem.W.isClsIn K C = true) (ht : PySem.W.typeIn K (.ref C) = some (.type "type")) (h : PySem.W.subIn K (.type T) (.ref C) = some b) : PySem.W.kitOne K (.type T) (.ref C) = some b := by
  unfold PySem.W.kitOne
  rw [if_neg (by simp)]
  show (if ((PySem.W.clsIn K C).isSome && PySem.W.typeIn K (.ref C) == some (.type "type")) = true then _ else _) = _
  rw [if_pos (by rw [ht, show (PySem.W.clsIn K C).isSome = true from hc]; decide)]
  exact h
/-- what is_int answers of a value -/
inductive Knd (K : PySem.W.Frag) (H : Hp) : V → Bool → Prop
  | int (i : Int) : Knd K H (.int i) true
  | bl (b : Bool) : Knd K H (.bl b) false
  | oth {v : V} {t : Value} : TyX K H v t → PySem.W.kitOne K t (.type "int") = some false → Knd K H v false
theorem Knd.non {K : PySem.W.Frag} {H : Hp} : Knd K H .non false := .oth (.base .non) (kit_ty (a := "NoneType") (b := "int") (r := false) (by decide +kernel))
theorem Knd.str {K : PySem.W.Frag} {H : Hp} (z : Str) : Knd K H (.str z) false := .oth (.base (.str z)) (kit_ty (a := "str") (b := "int") (r := false) (by decide +kernel))
theorem Knd.lst {K : PySem.W.Frag} {H : Hp} {a : Addr} {xs : List V} (h : H a = some (.lst xs)) : Knd K H (.ref a) false := .oth (.base (.lst h)) (kit_ty (a := "list") (b := "int") (r := false) (by decide +kernel))
theorem Knd.tup {K : PySem.W.Frag} {H : Hp} {a : Addr} {xs : List V} (h : H a = some (.tup xs)) : Knd K H (.ref a) false := .oth (.base (.tup h)) (kit_ty (a := "tuple") (b := "int") (r := false) (by decide +kernel))
theorem Knd.dK {K : PySem.W.Frag} {H : Hp} {a : Addr} {kvs : List (Key × V)} (h : H a = some (.dK kvs)) : Knd K H (.ref a) false := .oth (.base (.dK h)) (kit_ty (a := "dict") (b := "int") (r := false) (by decide +kernel))
theorem Knd.ins {K : PySem.W.Frag} {H : Hp} {a C dx : Addr} {fs : List (Str × V)} (h : H a = some (.ins C dx fs)) (cl : Cls K C) (i : IsT K C) (s : PySem.W.subIn K (.ref C) (.type "int") = some false) : Knd K H (.ref a) false :=
  .oth (.base (.ins h cl i.ha i.hn i.htk i.hm)) (kit_own s)
theorem Knd.isInt {K : PySem.W.Frag} {H : Hp} {v : V} (k : Knd K H v true) : ∃ i, v = .int i := by
  cases k with
  | int i => exact ⟨i, rfl⟩
theorem Knd.noInt {K : PySem.W.Frag} {H : Hp} {v : V} (k : Knd K H v false) : ∀ i, v ≠ .int i := by
  intro i e
  subst e
  cases k with
  | oth ty n =>
    cases ty with
    | base b =>
      cases b with
      | int i =>
        rw [kit_ii] at n
        cases n
def isNum1 : V → Bool
  | .int n => decide (1 ≤ n ∧ n ≤ 1000000000000)
  | _ => false
def isNum0 : V → Bool
  | .int n => decide (0 ≤ n ∧ n ≤ 1000000000000)
  | _ => false
def isMom : V → Bool
  | .int n => decide (-(10 ^ 60) < n ∧ n < 10 ^ 60)
  | _ => false
def inDay (n : Int) : V → Bool
  | .int x => decide (0 ≤ x ∧ x < n)
  | _ => false
theorem noInt_false {f : V → Bool} (hf : ∀ v, (∀ i, v ≠ .int i) → f v = false) {K : PySem.W.Frag} {H : Hp} {v : V} (k : Knd K H v false) : f v = false := hf v k.noInt
theorem isNum1_no {v : V} (h : ∀ i, v ≠ .int i) : isNum1 v = false := by cases v <;> first | rfl | exact absurd rfl (h _)
theorem isNum0_no {v : V} (h : ∀ i, v ≠ .int i) : isNum0 v = false := by cases v <;> first | rfl | exact absurd rfl (h _)
theorem isMom_no {v : V} (h : ∀ i, v ≠ .int i) : isMom v = false := by cases v <;> first | rfl | exact absurd rfl (h _)
theorem inDay_no {n : Int} {v : V} (h : ∀ i, v ≠ .int i) : inDay n v = false := by cases v <;> first | rfl | exact absurd rfl (h _)
theorem kit_bi {K : PySem.W.Frag} : PySem.W.kitOne K (.type "bool") (.type "int") = some true := kit_ty (a := "bool") (b := "int") (r := true) (by decide +kernel)
/-! ### texts of ints -/
theorem int_shown {i : Int} (h : i.natAbs < 10 ^ 200) : (PyData.shown (.int i)).length ≤ 201 := by
  have e := int_text_length_le10 (k := 200) (by decide) h
  show (Str.ofString (toString i)).length ≤ 201
  rw [PySem.ofString_length]
  exact e
theorem int_showable {i : Int} (h : i.natAbs < 10 ^ 200) : PyData.showable (.int i) = true := by
  have e : i.natAbs.log2 < 1920 := by
    by_cases z : i.natAbs = 0
    · rw [z]; decide
    · exact (Nat.log2_lt z).mpr (Nat.lt_of_lt_of_le h (by decide +kernel))
  simp only [PyData.showable, decide_eq_true_eq]
  exact e
theorem shown_ints : ∀ {ns : List Int}, (∀ i ∈ ns, i.natAbs < 10 ^ 200) → PyData.showableAll (ns.map PyData.int) = true ∧ PyData.depthAll (ns.map PyData.int) = 0 ∧ PyData.hasDictAll (ns.map PyData.int) = false ∧
    ((PyData.shownAll (ns.map PyData.int)).map (·.length)).sum ≤ 201 * ns.length ∧ (PyData.shownAll (ns.map PyData.int)).length = ns.length
  | [], _ => ⟨rfl, rfl, rfl, Nat.le_refl _, rfl⟩
  | n :: r, h => by
    obtain ⟨h1, h2, h3, h4, h5⟩ := shown_ints (ns := r) fun i hi => h i (List.mem_cons_of_mem _ hi)
    have hn := h n List.mem_cons_self
    have e := int_shown hn
    refine ⟨?_, ?_, ?_, ?_, ?_⟩
    · simp only [List.map_cons, PyData.showableAll, h1, int_showable hn, Bool.and_self]
    · simp only [List.map_cons, PyData.depthAll, PyData.depth, h2, Nat.max_self]
    · simp only [List.map_cons, PyData.hasDictAll, PyData.hasDict, h3, Bool.or_self]
    · simp only [List.map_cons, PyData.shownAll, List.sum_cons, List.length_cons]
      omega
    · simp only [List.map_cons, PyData.shownAll, List.length_cons, h5]
theorem Shw.ints {ns : List Int} (h : ∀ i ∈ ns, i.natAbs < 10 ^ 200) (hl : ns.length ≤ 2000) : Shw (.list (ns.map PyData.int)) := by
  obtain ⟨h1, h2, h3, h4, h5⟩ := shown_ints h
  refine ⟨?_, ?_, ?_, ?_⟩
  · simpa only [PyData.showable] using h1
  · simp only [PyData.depth, h2]
    omega
  · simpa only [PyData.hasDict] using h3
  · have e := listText_len_le (PyData.shownAll (ns.map PyData.int))
    have e2 : (PyData.shown (.list (ns.map PyData.int))).length = (listText (PyData.shownAll (ns.map PyData.int))).length := by simp only [PyData.shown]
    rw [e2, sizeLine_eq]
    omega
theorem Shw.two {a b : Int} (ha : a.natAbs < 10 ^ 200) (hb : b.natAbs < 10 ^ 200) : Shw (.list [.int a, .int b]) := Shw.ints (ns := [a, b]) (fun i hi => by
  simp only [List.mem_cons, List.not_mem_nil, or_false] at hi
  rcases hi with rfl | rfl <;> assumption) (by simp)
end OL

namespace OL
open PySem PySem.Spec PyProof.Rows L2
/-- an int constant of a class, read at the class -/
structure IntC (K : PySem.W.Frag) (C : Addr) (f : Str) (n : Int) : Prop where
  ex : ∃ t, PySem.W.findCls K (.ref C) (.type "type") f = some (.val (.int n t))
theorem IntC.of {K : PySem.W.Frag} {C : Addr} {f : Str} {n : Int} {t : Tok} (e : PySem.W.findCls K (.ref C) (.type "type") f = some (.val (.int n t))) : IntC K C f n := ⟨t, e⟩
theorem divmod_of {q s r : Int} (h0 : 0 ≤ r) (h1 : r < s) : (q * s + r) % s = r ∧ (q * s + r) / s = q := by
  have hs : 0 < s := by omega
  constructor
  · rw [Int.add_comm, Int.add_mul_emod_self_right]
    exact Int.emod_eq_of_lt h0 h1
  · rw [Int.add_comm, Int.add_mul_ediv_right _ _ (by omega), Int.ediv_eq_zero_of_lt h0 h1]
    omega
end OL

namespace OL
open PySem PySem.Spec PyProof.Rows L2
theorem strOk_of (s : String) : PyData.canLay0 (.str (Str.ofString s)) = true := by
  rw [PySem.Str.ofString_eq_toList]
  show ((s.toList.map Char.toNat).toArray.all fun c => decide (c < 0x110000)) = true
  rw [List.all_toArray, List.all_map, List.all_eq_true]
  intro c _
  have h := c.valid
  simp only [Function.comp_apply, decide_eq_true_eq]
  show c.val.toNat < 0x110000
  rcases h with h | ⟨_, h⟩
  · have : c.val.toNat < 0xd800 := h
    omega
  · exact h
end OL

namespace OL
open PySem PySem.Spec PyProof.Rows L2
/-- built-in kinds are not below the class -/
structure OddK (K : PySem.W.Frag) (C : Addr) : Prop where
  ic : PySem.W.isClsIn K C = true
  ty : PySem.W.typeIn K (.ref C) = some (.type "type")
  i : PySem.W.subIn K (.type "int") (.ref C) = some false
  s : PySem.W.subIn K (.type "str") (.ref C) = some false
  n : PySem.W.subIn K (.type "NoneType") (.ref C) = some false
  l : PySem.W.subIn K (.type "list") (.ref C) = some false
  t : PySem.W.subIn K (.type "tuple") (.ref C) = some false
end OL

namespace OL
open PySem PySem.Spec PyProof.Rows L2
theorem int_log2 {i : Int} (h : i.natAbs < 10 ^ 200) : i.natAbs.log2 < 1920 := by
  have e := int_showable h
  simpa only [PyData.showable, decide_eq_true_eq] using e
theorem div_mul_mod (x s : Int) : x / s * s + x % s = x := by
  have h := Int.emod_def x s
  rw [Int.mul_comm] at h
  omega
theorem whole_days {w s : Int} (hs : 0 < s) : (w - w % s) / s * s = w - w % s := by
  have h := div_mul_mod w s
  have e : w - w % s = w / s * s := by omega
  rw [e, Int.mul_ediv_cancel _ (by omega)]
end OL

namespace OL
open PySem PySem.Spec PyProof.Rows L2
theorem _root_.L2.TyX.same {K : PySem.W.Frag} {H H' : Hp} {v : V} {t : Value} (y : TyX K H v t) (s : Same H H') : TyX K H' v t := by
  cases y with
  | base b =>
    refine .base ?_
    cases b with
    | non => exact .non
    | bl x => exact .bl x
    | int i => exact .int i
    | str x => exact .str x
    | flt x => exact .flt x
    | lst e => exact .lst (s _ _ e)
    | frz e => exact .frz (s _ _ e)
    | tup e => exact .tup (s _ _ e)
    | dK e => exact .dK (s _ _ e)
    | dT e => exact .dT (s _ _ e)
    | ins e cl ha hn htk hm => exact .ins (s _ _ e) cl ha hn htk hm
  | byt b => exact .byt b
  | set e => exact .set (s _ _ e)
  | kList e c => exact .kList e c
  | kTuple e c => exact .kTuple e c
  | kDict e c => exact .kDict e c
  | fTuple e => exact .fTuple (s _ _ e)
  | fDict e => exact .fDict (s _ _ e)
theorem Knd.same {K : PySem.W.Frag} {H H' : Hp} {v : V} {b : Bool} (k : Knd K H v b) (s : Same H H') : Knd K H' v b := by
  cases k with
  | int i => exact .int i
  | bl x => exact .bl x
  | oth y n => exact .oth (y.same s) n
theorem _root_.L2.Same.new1 {H : Hp} {q : Addr} {o : HO} (n : H q = none) : Same H (upd H q o) := fun b u e => by rw [upd_ne (ne_of_none e n)]; exact e
theorem _root_.L2.Same.new2 {H : Hp} {q : Addr} {o o' : HO} (n : H q = none) : Same H (upd (upd H q o) q o') := fun b u e => by rw [upd_ne (ne_of_none e n), upd_ne (ne_of_none e n)]; exact e
end OL

namespace OL
open PySem PySem.Spec PyProof.Rows L2
theorem inDay_out {n x : Int} (h : ¬ (0 ≤ x ∧ x < n)) : inDay n (.int x) = false := decide_eq_false h
theorem kit_odd {K : PySem.W.Frag} {H : Hp} {C : Addr} {v : V} (o : OddV H v) (k : OddK K C) : ∃ t, TyX K H v t ∧ PySem.W.kitOne K t (.ref C) = some false := by
  cases o with
  | int i => exact ⟨_, .base (.int i), kit_to k.ic k.ty k.i⟩
  | str z => exact ⟨_, .base (.str z), kit_to k.ic k.ty k.s⟩
  | non => exact ⟨_, .base .non, kit_to k.ic k.ty k.n⟩
  | lst h => exact ⟨_, .base (.lst h), kit_to k.ic k.ty k.l⟩
  | tup h => exact ⟨_, .base (.tup h), kit_to k.ic k.ty k.t⟩
end OL

namespace OL
open PySem PySem.Spec PyProof.Rows L2
theorem shaped_sii (s : String) (a b : Int) : SeqAt.shaped (.list [.str (Str.ofString s), .int a, .int b]) = true := by
  have h := strOk_of s
  unfold SeqAt.shaped
  simp only [PyData.canLay0, PyData.canLayAll0, PyData.depth, PyData.depthAll, Bool.and_true] at h ⊢
  rw [h]
  simp
theorem eqv_shaped {d : PyData} (h : SeqAt.shaped d = true) : PyData.eqv d d = true := SeqAt.eqv_refl d (SeqAt.canLay_of_shaped h)
end OL

set_option Elab.async false
set_option linter.all false
set_option maxRecDepth 100000
set_option maxHeartbeats 1000000
namespace OL
open PySem PySem.Spec PyProof.Rows L2
/-! ### o == v, v of any known type -/
theorem ow_eqV {X : Cx} {j k : Nat} {C : Addr} {ps : List Str} {sp : Sp} (c : MetF X.prog X.w X.K X.mg X.base k C "__eq__" ps sp) (hr : RoomG j X.A) (hk : k ≤ j := by decide) : OpR X (compareOp .Eq) (rOwnEqV X.K C sp) := by
  obtain ⟨f, fd, F, hm, hf, kp, b, _⟩ := c.ex
  intro pins s σ H x y v u Q I rx ry h
  obtain ⟨a, dx, fs, t, rfl, ha, ty, hn, q⟩ := h
  cases (show v = Value.ref a from rx)
  obtain ⟨mA, O, _⟩ := ins_get I.hok ha
  obtain ⟨od, J, _⟩ := O.look
  obtain ⟨P, Z, hP, _⟩ := kit_of I ry ty
  obtain ⟨m, hF⟩ := I.fr
  show wpAny (model X.prog X.w) X.A (richCompare .Eq _ _) _ _ _
  refine PySem.W.cmp_K (op := .Eq) (tb := t) (hr.mono hk).room.units0 hF I.ok.mod.kin J (Z.ty _ _ I.kIn hP) hn hm hf ?_
  exact wpAny_mono (run_g (us := [.ref a, u]) (vs := [.ref a, y]) F (hr.mono hk) b pass0 I (.cons rfl (.cons ry .nil)) q) (fun w s' z => back_ep z) fun _ _ z => z
/-- the same within a comprehension -/
theorem ow_eqW {X : Cx} {K : PySem.W.Frag} {j k : Nat} {C : Addr} {ps : List Str} {sp : Sp} (c : MetF X.prog X.w K X.mg X.base k C "__eq__" ps sp) (hr : RoomG j X.A) (hk : k ≤ j := by decide) (hK : X.K = K := by rfl) : OpR X (compareOp .Eq) (rOwnEqV K C sp) := by
  subst hK
  exact ow_eqV c hr hk
/-! ### an own class below another own one -/
theorem kit_cc {K : PySem.W.Frag} {C D : Addr} {b : Bool} (hc : PySem.W.isClsIn K D = true) (ht : PySem.W.typeIn K (.ref D) = some (.type "type")) (h : PySem.W.subIn K (.ref C) (.ref D) = some b) (ne : C ≠ D) : PySem.W.kitOne K (.ref C) (.ref D) = some b := by
  unfold PySem.W.kitOne
  rw [if_neg (by simp only [beq_iff_eq]; intro z; cases z; exact ne rfl)]
  show (if ((PySem.W.clsIn K D).isSome && PySem.W.typeIn K (.ref D) == some (.type "type")) = true then _ else _) = _
  rw [if_pos (by rw [ht, show (PySem.W.clsIn K D).isSome = true from hc]; decide)]
  exact h
theorem kit_ccT {K : PySem.W.Frag} {C D : Addr} (hc : PySem.W.isClsIn K D = true) (ht : PySem.W.typeIn K (.ref D) = some (.type "type")) (h : PySem.W.subIn K (.ref C) (.ref D) = some true) : PySem.W.kitOne K (.ref C) (.ref D) = some true := by
  by_cases e : C = D
  · subst e
    exact kit_self _
  · exact kit_cc hc ht h e
theorem kit_ccF {K : PySem.W.Frag} {C D : Addr} (hc : PySem.W.isClsIn K D = true) (ht : PySem.W.typeIn K (.ref D) = some (.type "type")) (hs : PySem.W.subIn K (.ref C) (.ref C) = some true) (h : PySem.W.subIn K (.ref C) (.ref D) = some false) : PySem.W.kitOne K (.ref C) (.ref D) = some false :=
  kit_cc hc ht h fun e => by
    subst e
    rw [hs] at h
    cases h
/-! ### flat data -/
theorem depth_flat : ∀ {ds : List PyData}, (∀ d ∈ ds, d.depth = 0) → PyData.depthAll ds = 0
  | [], _ => rfl
  | d :: r, h => by simp only [PyData.depthAll, h d List.mem_cons_self, depth_flat (ds := r) fun x hx => h x (List.mem_cons_of_mem _ hx), Nat.max_self]
theorem lay_flat : ∀ {ds : List PyData}, (∀ d ∈ ds, d.canLay0 = true) → PyData.canLayAll0 ds = true
  | [], _ => rfl
  | d :: r, h => by simp only [PyData.canLayAll0, h d List.mem_cons_self, lay_flat (ds := r) fun x hx => h x (List.mem_cons_of_mem _ hx), Bool.and_self]
theorem shaped_flat {ds : List PyData} (h : ∀ d ∈ ds, d.canLay0 = true ∧ d.depth = 0) : SeqAt.shaped (.list ds) = true := by
  unfold SeqAt.shaped
  simp only [PyData.canLay0, PyData.depth, lay_flat fun d hd => (h d hd).1, depth_flat fun d hd => (h d hd).2, Bool.true_and]
  rfl
theorem shown_flat : ∀ {ds : List PyData}, (∀ d ∈ ds, d.showable = true ∧ d.depth = 0 ∧ d.hasDict = false ∧ d.shown.length ≤ 250) → PyData.showableAll ds = true ∧ PyData.hasDictAll ds = false ∧
    ((PyData.shownAll ds).map (·.length)).sum ≤ 250 * ds.length ∧ (PyData.shownAll ds).length = ds.length
  | [], _ => ⟨rfl, rfl, Nat.le_refl _, rfl⟩
  | d :: r, h => by
    obtain ⟨h1, h3, h4, h5⟩ := shown_flat (ds := r) fun i hi => h i (List.mem_cons_of_mem _ hi)
    obtain ⟨a1, a2, a3, a4⟩ := h d List.mem_cons_self
    refine ⟨?_, ?_, ?_, ?_⟩
    · simp only [PyData.showableAll, h1, a1, Bool.and_self]
    · simp only [PyData.hasDictAll, h3, a3, Bool.or_self]
    · simp only [PyData.shownAll, List.map_cons, List.sum_cons, List.length_cons]
      omega
    · simp only [PyData.shownAll, List.length_cons, h5]
theorem Shw.flat {ds : List PyData} (h : ∀ d ∈ ds, d.showable = true ∧ d.depth = 0 ∧ d.hasDict = false ∧ d.shown.length ≤ 250) (hl : ds.length ≤ 2000) : Shw (.list ds) := by
  obtain ⟨h1, h3, h4, h5⟩ := shown_flat h
  have h2 := depth_flat fun d hd => (h d hd).2.1
  refine ⟨?_, ?_, ?_, ?_⟩
  · simpa only [PyData.showable] using h1
  · simp only [PyData.depth, h2]
    omega
  · simpa only [PyData.hasDict] using h3
  · have e := listText_len_le (PyData.shownAll ds)
    have e2 : (PyData.shown (.list ds)).length = (listText (PyData.shownAll ds)).length := by simp only [PyData.shown]
    rw [e2, sizeLine_eq]
    omega
theorem eqv_strs : ∀ xs ys : List Str, PyData.eqvAll (xs.map PyData.str) (ys.map PyData.str) = decide (xs = ys)
  | [], [] => rfl
  | [], _ :: _ => by simp [PyData.eqvAll]
  | _ :: _, [] => by simp [PyData.eqvAll]
  | x :: xs, y :: ys => by
    simp only [List.map_cons, PyData.eqvAll, PyData.eqv, eqv_strs xs ys]
    by_cases e : x = y <;> by_cases e2 : xs = ys <;> simp [e, e2]
theorem dp_strs {K : PySem.W.Frag} {H : Hp} : ∀ ys : List Str, DpAll K H (ys.map V.str) (ys.map PyData.str)
  | [] => .nil
  | y :: r => .cons (.str y) (dp_strs r)
/-! ### texts of numbers -/
theorem str_num_inj {i j : Int} (hi : 0 ≤ i) (hj : 0 ≤ j) (h : Str.ofString (toString i) = Str.ofString (toString j)) : i = j := by
  obtain ⟨m, rfl⟩ := Int.eq_ofNat_of_zero_le hi
  obtain ⟨n, rfl⟩ := Int.eq_ofNat_of_zero_le hj
  have e : TL.tl (Str.ofString (toString ((m : Nat) : Int))) = TL.tl (Str.ofString (toString ((n : Nat) : Int))) := congrArg TL.tl h
  rw [TL.tl_num, TL.tl_num] at e
  rw [TL.numL_inj e]
/-! ### names -/
def nm (z : Str) : Bool := Txt.isascii z && Txt.isalpha z && Txt.islower z && decide (z.length ≤ 8) && PyData.canLay0 (.str z) && PyData.showable (.str z) && decide ((PyData.shown (.str z)).length ≤ 250)
/-! ### what a trip is made of -/
structure TD where
  n : Str
  s : Str
  l : Int
  t : Int
  g : Str
deriving DecidableEq
def TD.ok (d : TD) : Prop := nm d.n = true ∧ nm d.s = true ∧ nm d.g = true ∧ (0 ≤ d.l ∧ d.l ≤ 1000000000000) ∧ (1 ≤ d.t ∧ d.t ≤ 1000000000000)
def tdV (d : TD) : List V := [.str d.n, .str d.s, .int d.l, .int d.t, .str d.g]
def tdP (d : TD) : List PyData := [.str d.n, .str d.s, .int d.l, .int d.t, .str d.g]
def tdV4 (d : TD) : List V := [.str d.n, .str d.s, .int d.l, .int d.t]
def tdP4 (d : TD) : List PyData := [.str d.n, .str d.s, .int d.l, .int d.t]
def wordsR (d : TD) : List Str := ["run", d.n, d.s, Str.ofString (toString d.l), Str.ofString (toString d.t), d.g]
def wordsS (d : TD) : List Str := ["stay", d.n, d.s, Str.ofString (toString d.l), Str.ofString (toString d.t)]
def trF (d : TD) : List (Str × V) := putF "goal" (.str d.g) (putF "takes" (.int d.t) (putF "leaves" (.int d.l) (putF "start" (.str d.s) (putF "name" (.str d.n) []))))
theorem trF_len (d : TD) : (trF d).length = 5 := rfl
theorem trF_n (d : TD) : (trF d).lookup ("name" : Str) = some (.str d.n) := by
  simp only [trF, lookup_putF]
  rw [if_neg (by decide +kernel), if_neg (by decide +kernel), if_neg (by decide +kernel), if_neg (by decide +kernel), if_pos trivial]
theorem trF_s (d : TD) : (trF d).lookup ("start" : Str) = some (.str d.s) := by
  simp only [trF, lookup_putF]
  rw [if_neg (by decide +kernel), if_neg (by decide +kernel), if_neg (by decide +kernel), if_pos trivial]
theorem trF_l (d : TD) : (trF d).lookup ("leaves" : Str) = some (.int d.l) := by
  simp only [trF, lookup_putF]
  rw [if_neg (by decide +kernel), if_neg (by decide +kernel), if_pos trivial]
theorem trF_t (d : TD) : (trF d).lookup ("takes" : Str) = some (.int d.t) := by
  simp only [trF, lookup_putF]
  rw [if_neg (by decide +kernel), if_pos trivial]
theorem trF_g (d : TD) : (trF d).lookup ("goal" : Str) = some (.str d.g) := by
  simp only [trF, lookup_putF]
  rw [if_pos trivial]
theorem trF_no (d : TD) {m : Str} (h : ¬ (m = "name" ∨ m = "start" ∨ m = "leaves" ∨ m = "takes" ∨ m = "goal")) : (trF d).lookup m = none := by
  simp only [not_or] at h
  simp only [trF, lookup_putF, if_neg h.1, if_neg h.2.1, if_neg h.2.2.1, if_neg h.2.2.2.1, if_neg h.2.2.2.2, List.lookup]
theorem nm_all {z : Str} (h : nm z = true) : Txt.isascii z = true ∧ Txt.isalpha z = true ∧ Txt.islower z = true ∧ z.length ≤ 8 ∧ PyData.canLay0 (.str z) = true ∧ PyData.showable (.str z) = true ∧ (PyData.shown (.str z)).length ≤ 250 := by
  simp only [nm, Bool.and_eq_true, decide_eq_true_eq] at h
  obtain ⟨⟨⟨⟨⟨⟨h1, h2⟩, h3⟩, h4⟩, h5⟩, h6⟩, h7⟩ := h
  exact ⟨h1, h2, h3, h4, h5, h6, h7⟩
theorem num_small {i : Int} (h : 0 ≤ i ∧ i ≤ 1000000000000) : i.natAbs < 10 ^ 200 := by
  have : i.natAbs ≤ 1000000000000 := by omega
  exact Nat.lt_of_le_of_lt this (by decide +kernel)
theorem num_text_len {i : Int} (h : 0 ≤ i ∧ i ≤ 1000000000000) : (Str.ofString (toString i)).length ≤ 14 := by
  have e := int_text_length_le10 (a := i) (k := 13) (by decide) (by omega)
  rw [PySem.ofString_length]
  omega
theorem TD.flat {d : TD} (h : d.ok) : ∀ x ∈ tdP d, (x.canLay0 = true ∧ x.depth = 0) ∧ (x.showable = true ∧ x.depth = 0 ∧ x.hasDict = false ∧ x.shown.length ≤ 250) := by
  obtain ⟨h1, h2, h3, h4, h5⟩ := h
  have a1 := nm_all h1
  have a2 := nm_all h2
  have a3 := nm_all h3
  have b4 := num_small h4
  have b5 := num_small (i := d.t) ⟨by omega, by omega⟩
  intro x hx
  simp only [tdP, List.mem_cons, List.not_mem_nil, or_false] at hx
  rcases hx with rfl | rfl | rfl | rfl | rfl
  · exact ⟨⟨a1.2.2.2.2.1, rfl⟩, a1.2.2.2.2.2.1, rfl, rfl, a1.2.2.2.2.2.2⟩
  · exact ⟨⟨a2.2.2.2.2.1, rfl⟩, a2.2.2.2.2.2.1, rfl, rfl, a2.2.2.2.2.2.2⟩
  · exact ⟨⟨rfl, rfl⟩, int_showable b4, rfl, rfl, Nat.le_trans (int_shown b4) (by decide)⟩
  · exact ⟨⟨rfl, rfl⟩, int_showable b5, rfl, rfl, Nat.le_trans (int_shown b5) (by decide)⟩
  · exact ⟨⟨a3.2.2.2.2.1, rfl⟩, a3.2.2.2.2.2.1, rfl, rfl, a3.2.2.2.2.2.2⟩
theorem TD.shw {d : TD} (h : d.ok) : Shw (.list (tdP d)) := Shw.flat (fun x hx => (TD.flat h x hx).2) (by show 5 ≤ 2000; decide)
theorem TD.shp {d : TD} (h : d.ok) : SeqAt.shaped (.list (tdP d)) = true := shaped_flat fun x hx => (TD.flat h x hx).1
theorem TD.shp4 {d : TD} (h : d.ok) : SeqAt.shaped (.list (tdP4 d)) = true := shaped_flat fun x hx => (TD.flat h x (by
  simp only [tdP, tdP4, List.mem_cons, List.not_mem_nil, or_false] at hx ⊢
  rcases hx with h | h | h | h <;> simp [h])).1
theorem TD.eqv (d e : TD) : PyData.eqv (.list (tdP d)) (.list (tdP e)) = decide (d = e) := by
  obtain ⟨n, s, l, t, g⟩ := d
  obtain ⟨n', s', l', t', g'⟩ := e
  rw [Bool.eq_iff_iff]
  simp [tdP, PyData.eqv, PyData.eqvAll]
theorem TD.eqv4 {d e : TD} (hd : d.g = d.s) (he : e.g = e.s) : PyData.eqv (.list (tdP4 d)) (.list (tdP4 e)) = decide (d = e) := by
  obtain ⟨n, s, l, t, g⟩ := d
  obtain ⟨n', s', l', t', g'⟩ := e
  cases (show g = s from hd)
  cases (show g' = s' from he)
  rw [Bool.eq_iff_iff]
  simp [tdP4, PyData.eqv, PyData.eqvAll]
  exact fun _ a _ _ => a
theorem wordsR_iff {d e : TD} (hd : d.ok) (he : e.ok) : wordsR d = wordsR e ↔ d = e := by
  constructor
  · intro h
    obtain ⟨n, s, l, t, g⟩ := d
    obtain ⟨n', s', l', t', g'⟩ := e
    simp only [wordsR, List.cons.injEq, and_true, true_and] at h
    obtain ⟨h1, h2, h3, h4, h5⟩ := h
    have a : (0 ≤ l ∧ l ≤ 1000000000000) ∧ (1 ≤ t ∧ t ≤ 1000000000000) := hd.2.2.2
    have b : (0 ≤ l' ∧ l' ≤ 1000000000000) ∧ (1 ≤ t' ∧ t' ≤ 1000000000000) := he.2.2.2
    have e3 : l = l' := str_num_inj a.1.1 b.1.1 h3
    have e4 : t = t' := str_num_inj (by have := a.2.1; omega) (by have := b.2.1; omega) h4
    rw [h1, h2, e3, e4, h5]
  · intro h
    rw [h]
theorem wordsS_iff {d e : TD} (hd : d.ok) (he : e.ok) (gd : d.g = d.s) (ge : e.g = e.s) : wordsS d = wordsS e ↔ d = e := by
  constructor
  · intro h
    obtain ⟨n, s, l, t, g⟩ := d
    obtain ⟨n', s', l', t', g'⟩ := e
    cases (show g = s from gd)
    cases (show g' = s' from ge)
    simp only [wordsS, List.cons.injEq, and_true, true_and] at h
    obtain ⟨h1, h2, h3, h4⟩ := h
    have a : (0 ≤ l ∧ l ≤ 1000000000000) ∧ (1 ≤ t ∧ t ≤ 1000000000000) := hd.2.2.2
    have b : (0 ≤ l' ∧ l' ≤ 1000000000000) ∧ (1 ≤ t' ∧ t' ≤ 1000000000000) := he.2.2.2
    have e3 : l = l' := str_num_inj a.1.1 b.1.1 h3
    have e4 : t = t' := str_num_inj (by have := a.2.1; omega) (by have := b.2.1; omega) h4
    rw [h1, h2, e3, e4]
  · intro h
    rw [h]
theorem strs_shp {ys : List Str} (h : ∀ y ∈ ys, PyData.canLay0 (.str y) = true) : SeqAt.shaped (.list (ys.map PyData.str)) = true := shaped_flat fun d hd => by
  obtain ⟨y, hy, rfl⟩ := List.mem_map.mp hd
  exact ⟨h y hy, rfl⟩
theorem wordsR_shp {d : TD} (h : d.ok) : SeqAt.shaped (.list ((wordsR d).map PyData.str)) = true := strs_shp fun y hy => by
  obtain ⟨h1, h2, h3, h4, h5⟩ := h
  simp only [wordsR, List.mem_cons, List.not_mem_nil, or_false] at hy
  rcases hy with rfl | rfl | rfl | rfl | rfl | rfl
  · exact strOk_of _
  · exact (nm_all h1).2.2.2.2.1
  · exact (nm_all h2).2.2.2.2.1
  · exact strOk_of _
  · exact strOk_of _
  · exact (nm_all h3).2.2.2.2.1
theorem wordsS_shp {d : TD} (h : d.ok) : SeqAt.shaped (.list ((wordsS d).map PyData.str)) = true := strs_shp fun y hy => by
  obtain ⟨h1, h2, h3, h4, h5⟩ := h
  simp only [wordsS, List.mem_cons, List.not_mem_nil, or_false] at hy
  rcases hy with rfl | rfl | rfl | rfl | rfl
  · exact strOk_of _
  · exact (nm_all h1).2.2.2.2.1
  · exact (nm_all h2).2.2.2.2.1
  · exact strOk_of _
  · exact strOk_of _
theorem wordsR_len {d : TD} (h : d.ok) : ((wordsR d).map (·.length)).sum + (wordsR d).length * (Str.ofString " ").length ≤ 16777216 := by
  obtain ⟨h1, h2, h3, h4, h5⟩ := h
  have a1 := (nm_all h1).2.2.2.1
  have a2 := (nm_all h2).2.2.2.1
  have a3 := (nm_all h3).2.2.2.1
  have b4 := num_text_len h4
  have b5 := num_text_len (i := d.t) ⟨by omega, by omega⟩
  have c : (Str.ofString "run").length = 3 := by decide +kernel
  have c1 : (Str.ofString " ").length = 1 := by decide +kernel
  simp only [wordsR, List.map_cons, List.map_nil, List.sum_cons, List.sum_nil, List.length_cons, List.length_nil, c, c1]
  omega
theorem wordsS_len {d : TD} (h : d.ok) : ((wordsS d).map (·.length)).sum + (wordsS d).length * (Str.ofString " ").length ≤ 16777216 := by
  obtain ⟨h1, h2, h3, h4, h5⟩ := h
  have a1 := (nm_all h1).2.2.2.1
  have a2 := (nm_all h2).2.2.2.1
  have b4 := num_text_len h4
  have b5 := num_text_len (i := d.t) ⟨by omega, by omega⟩
  have c : (Str.ofString "stay").length = 4 := by decide +kernel
  have c1 : (Str.ofString " ").length = 1 := by decide +kernel
  simp only [wordsS, List.map_cons, List.map_nil, List.sum_cons, List.sum_nil, List.length_cons, List.length_nil, c, c1]
  omega
/-- a trip at a place, of a class -/
def TrAt (C : Addr) (H : Hp) (a : Addr) (d : TD) : Prop := ∃ dx, H a = some (.ins C dx (trF d))
theorem TrAt.but {C p a : Addr} {H H' : Hp} {d : TD} (h : TrAt C H a d) (b : But p H H') (ne : a ≠ p) : TrAt C H' a d := let ⟨dx, e⟩ := h; ⟨dx, b _ _ e ne⟩
theorem TrAt.same {C a : Addr} {H H' : Hp} {d : TD} (h : TrAt C H a d) (b : Same H H') : TrAt C H' a d := let ⟨dx, e⟩ := h; ⟨dx, b _ _ e⟩
/-- what is asked of a class of trips -/
structure TrC (K : PySem.W.Frag) (C : Addr) : Prop where
  cl : Cls K C
  i : IsT K C
  n : PySem.W.findIn K (.ref C) "name" = some none
  s : PySem.W.findIn K (.ref C) "start" = some none
  l : PySem.W.findIn K (.ref C) "leaves" = some none
  t : PySem.W.findIn K (.ref C) "takes" = some none
  g : PySem.W.findIn K (.ref C) "goal" = some none
  ss : PySem.W.subIn K (.ref C) (.ref C) = some true
theorem TrC.ty {K : PySem.W.Frag} {C a dx : Addr} {H : Hp} {fs : List (Str × V)} (c : TrC K C) (h : H a = some (.ins C dx fs)) : TyX K H (.ref a) (.ref C) := .base (.ins h c.cl c.i.ha c.i.hn c.i.htk c.i.hm)
def names13 : List Str := ["a", "b", "p", "run", "stay", "day", "pauses", "zz", "zzzzzzzz", "self", "ab", "abcdefgh", "x"]
theorem names_nm : ∀ z ∈ names13, nm z = true := by decide +kernel
theorem tdV_setS {d : TD} {i : Nat} {z : Str} (ok : d.ok) (hz : nm z = true) (hi : i = 0 ∨ i = 1 ∨ i = 4) : ∃ e : TD, (tdV d).set i (.str z) = tdV e ∧ e.ok := by
  obtain ⟨n, s, l, t, g⟩ := d
  obtain ⟨h1, h2, h3, h4, h5⟩ := ok
  rcases hi with rfl | rfl | rfl
  · exact ⟨⟨z, s, l, t, g⟩, rfl, hz, h2, h3, h4, h5⟩
  · exact ⟨⟨n, z, l, t, g⟩, rfl, h1, hz, h3, h4, h5⟩
  · exact ⟨⟨n, s, l, t, z⟩, rfl, h1, h2, hz, h4, h5⟩
theorem tdV_setI {d : TD} {i : Nat} {x : Int} (ok : d.ok) (hx : 1 ≤ x ∧ x ≤ 1000000000000) (hi : i = 2 ∨ i = 3) : ∃ e : TD, (tdV d).set i (.int x) = tdV e ∧ e.ok := by
  obtain ⟨n, s, l, t, g⟩ := d
  obtain ⟨h1, h2, h3, h4, h5⟩ := ok
  rcases hi with rfl | rfl
  · exact ⟨⟨n, s, x, t, g⟩, rfl, h1, h2, h3, ⟨by show 0 ≤ x; omega, hx.2⟩, h5⟩
  · exact ⟨⟨n, s, l, x, g⟩, rfl, h1, h2, h3, h4, hx⟩
theorem tdV4_setS {d : TD} {i : Nat} {z : Str} (ok : d.ok) (gd : d.g = d.s) (hz : nm z = true) (hi : i = 0 ∨ i = 1) : ∃ e : TD, (tdV4 d).set i (.str z) = tdV4 e ∧ e.ok ∧ e.g = e.s := by
  obtain ⟨n, s, l, t, g⟩ := d
  obtain ⟨h1, h2, h3, h4, h5⟩ := ok
  rcases hi with rfl | rfl
  · exact ⟨⟨z, s, l, t, g⟩, rfl, ⟨hz, h2, h3, h4, h5⟩, gd⟩
  · exact ⟨⟨n, z, l, t, z⟩, rfl, ⟨h1, hz, hz, h4, h5⟩, rfl⟩
theorem tdV4_setI {d : TD} {i : Nat} {x : Int} (ok : d.ok) (gd : d.g = d.s) (hx : 1 ≤ x ∧ x ≤ 1000000000000) (hi : i = 2 ∨ i = 3) : ∃ e : TD, (tdV4 d).set i (.int x) = tdV4 e ∧ e.ok ∧ e.g = e.s := by
  obtain ⟨n, s, l, t, g⟩ := d
  obtain ⟨h1, h2, h3, h4, h5⟩ := ok
  rcases hi with rfl | rfl
  · exact ⟨⟨n, s, x, t, g⟩, rfl, ⟨h1, h2, h3, ⟨by show 0 ≤ x; omega, hx.2⟩, h5⟩, gd⟩
  · exact ⟨⟨n, s, l, x, g⟩, rfl, ⟨h1, h2, h3, h4, hx⟩, gd⟩
theorem cmpR {d e : TD} (hd : d.ok) (he : e.ok) : decide (wordsR d = wordsR e) = PyData.eqv (.list (tdP e)) (.list (tdP d)) := by
  rw [TD.eqv, decide_eq_decide, wordsR_iff hd he]
  exact eq_comm
theorem cmpS {d e : TD} (hd : d.ok) (he : e.ok) (gd : d.g = d.s) (ge : e.g = e.s) : decide (wordsS d = wordsS e) = PyData.eqv (.list (tdP4 e)) (.list (tdP4 d)) := by
  rw [TD.eqv4 ge gd, decide_eq_decide, wordsS_iff hd he gd ge]
  exact eq_comm
theorem ne_same {a b : Bool} (h : a = b) : (!decide (V.bl a = V.bl b)) = false := by
  rw [h]
  simp
theorem eq_not {a b : Bool} (h : a = b) : decide (V.bl (!a) = V.bl b) = false := by
  rw [h]
  cases b <;> simp
theorem ixN_i {n i : Nat} (h : i < n) : ixN n (0 + (i : Int)) = some i := by
  unfold ixN
  rw [if_pos (by omega)]
  first
  | (rw [if_pos (by omega)]; simp)
  | (simp; omega)
theorem in014 (i : Int) : inV (.int i) [.int 0, .int 1, .int 4] = decide (i = 0 ∨ i = 1 ∨ i = 4) := by
  rw [Bool.eq_iff_iff]
  simp only [inV, List.any_cons, List.any_nil, Bool.or_false, eqV, Bool.or_eq_true, beq_iff_eq, decide_eq_true_eq]
  omega
theorem cmpS' {d e : TD} (hd : d.ok) (he : e.ok) (gd : d.g = d.s) (ge : e.g = e.s) : decide (wordsS e = wordsS d) = PyData.eqv (.list (tdP4 e)) (.list (tdP4 d)) := by
  rw [TD.eqv4 ge gd, decide_eq_decide, wordsS_iff he hd ge gd]
end OL
namespace OLP
open PySem PySem.Spec PyProof.Rows L2 OL
def top (i : Nat) : Stmt := PySem.Challenge.pw_onelongturn_k12_trips_made.main.body.getD i (.Pass ⟨0, 0, 0, 0⟩)
abbrev s_is_int : Stmt := top 9
theorem sc_is_int : FnScope ["value"] ["value"] (defScope s_is_int) := ⟨rfl, rfl, rfl, by decide +kernel, rfl, by decide +kernel, by decide +kernel⟩
abbrev s_is_number : Stmt := top 10
theorem sc_is_number : FnScope ["value"] ["value"] (defScope s_is_number) := ⟨rfl, rfl, rfl, by decide +kernel, rfl, by decide +kernel, by decide +kernel⟩
abbrev s_is_number_from_one : Stmt := top 11
theorem sc_is_number_from_one : FnScope ["value"] ["value"] (defScope s_is_number_from_one) := ⟨rfl, rfl, rfl, by decide +kernel, rfl, by decide +kernel, by decide +kernel⟩
abbrev s_is_name : Stmt := top 12
theorem sc_is_name : FnScope ["value"] ["value"] (defScope s_is_name) := ⟨rfl, rfl, rfl, by decide +kernel, rfl, by decide +kernel, by decide +kernel⟩
abbrev s_Run___init__ : Stmt := inClass (top 23) 0
theorem sc_Run___init__ : FnScope ["self", "name", "start", "leaves", "takes", "goal"] ["self", "name", "start", "leaves", "takes", "goal"] (defScope s_Run___init__) := ⟨rfl, rfl, rfl, by decide +kernel, rfl, by decide +kernel, by decide +kernel⟩
abbrev s_Run___eq__ : Stmt := inClass (top 23) 7
theorem sc_Run___eq__ : FnScope ["self", "other"] ["self", "other"] (defScope s_Run___eq__) := ⟨rfl, rfl, rfl, by decide +kernel, rfl, by decide +kernel, by decide +kernel⟩
abbrev s_Run___str__ : Stmt := inClass (top 23) 8
theorem sc_Run___str__ : FnScope ["self"] ["self"] (defScope s_Run___str__) := ⟨rfl, rfl, rfl, by decide +kernel, rfl, by decide +kernel, by decide +kernel⟩
abbrev s_Stay___init__ : Stmt := inClass (top 24) 0
theorem sc_Stay___init__ : FnScope ["self", "name", "place", "leaves", "takes"] ["self", "name", "place", "leaves", "takes"] (defScope s_Stay___init__) := ⟨rfl, rfl, rfl, by decide +kernel, rfl, by decide +kernel, by decide +kernel⟩
abbrev s_Stay___eq__ : Stmt := inClass (top 24) 7
theorem sc_Stay___eq__ : FnScope ["self", "other"] ["self", "other"] (defScope s_Stay___eq__) := ⟨rfl, rfl, rfl, by decide +kernel, rfl, by decide +kernel, by decide +kernel⟩
abbrev s_Stay___str__ : Stmt := inClass (top 24) 8
theorem sc_Stay___str__ : FnScope ["self"] ["self"] (defScope s_Stay___str__) := ⟨rfl, rfl, rfl, by decide +kernel, rfl, by decide +kernel, by decide +kernel⟩
abbrev s_check_trip : Stmt := top 25
theorem sc_check_trip : FnScope ["name", "places", "leaves", "takes", "place"] ["name", "places", "leaves", "takes"] (defScope s_check_trip) := ⟨rfl, rfl, rfl, by decide +kernel, rfl, by decide +kernel, by decide +kernel⟩
abbrev s_words_of : Stmt := top 29
theorem sc_words_of : FnScope ["trip"] ["trip"] (defScope s_words_of) := ⟨rfl, rfl, rfl, by decide +kernel, rfl, by decide +kernel, by decide +kernel⟩
abbrev s_law_pen : Stmt := top 32
theorem sc_law_pen : FnScope ["script"] ["script"] (defScope s_law_pen) := ⟨rfl, rfl, rfl, by decide +kernel, rfl, by decide +kernel, by decide +kernel⟩
abbrev s_law_draw : Stmt := top 33
theorem sc_law_draw : FnScope ["pen", "many", "digit", "turn", "cell", "great", "mixed"] ["pen", "many"] (defScope s_law_draw) := ⟨rfl, rfl, rfl, by decide +kernel, rfl, by decide +kernel, by decide +kernel⟩
abbrev s_law_pick : Stmt := top 34
theorem sc_law_pick : FnScope ["pen", "some"] ["pen", "some"] (defScope s_law_pick) := ⟨rfl, rfl, rfl, by decide +kernel, rfl, by decide +kernel, by decide +kernel⟩
abbrev s_law_title : Stmt := top 35
theorem sc_law_title : FnScope ["pen", "some"] ["pen"] (defScope s_law_title) := ⟨rfl, rfl, rfl, by decide +kernel, rfl, by decide +kernel, by decide +kernel⟩
abbrev s_law_number : Stmt := top 36
theorem sc_law_number : FnScope ["pen", "least"] ["pen", "least"] (defScope s_law_number) := ⟨rfl, rfl, rfl, by decide +kernel, rfl, by decide +kernel, by decide +kernel⟩
abbrev s_law_kinds : Stmt := top 37
theorem sc_law_kinds : FnScope ["made"] ["made"] (defScope s_law_kinds) := ⟨rfl, rfl, rfl, by decide +kernel, rfl, by decide +kernel, by decide +kernel⟩
abbrev s_law_parts : Stmt := top 38
theorem sc_law_parts : FnScope ["made"] ["made"] (defScope s_law_parts) := ⟨rfl, rfl, rfl, by decide +kernel, rfl, by decide +kernel, by decide +kernel⟩
abbrev s_law_run_right : Stmt := top 39
theorem sc_law_run_right : FnScope ["pen", "parts", "title", "home", "when", "span", "target", "made", "twin", "at", "bent", "other", "others", "odd"] ["pen", "parts"] (defScope s_law_run_right) := ⟨rfl, rfl, rfl, by decide +kernel, rfl, by decide +kernel, by decide +kernel⟩
abbrev s_law_stay_right : Stmt := top 40
theorem sc_law_stay_right : FnScope ["pen", "parts", "title", "home", "when", "span", "made", "at", "bent", "other", "odd"] ["pen", "parts"] (defScope s_law_stay_right) := ⟨rfl, rfl, rfl, by decide +kernel, rfl, by decide +kernel, by decide +kernel⟩
abbrev s_law : Stmt := top 41
theorem sc_law : FnScope ["script", "pen", "lap", "parts"] ["script"] (defScope s_law) := ⟨rfl, rfl, rfl, by decide +kernel, rfl, by decide +kernel, by decide +kernel⟩
structure Txt (K : PySem.W.Frag) (mg : Str → Option Value) (ATrip APaused ARun AStay : Addr) : Prop where
  d_is_int : DefT K mg "is_int" s_is_int ["value"]
  d_is_number : DefT K mg "is_number" s_is_number ["value"]
  d_is_number_from_one : DefT K mg "is_number_from_one" s_is_number_from_one ["value"]
  d_is_name : DefT K mg "is_name" s_is_name ["value"]
  m_Run___init__ : MethT K ARun "__init__" "Run.__init__" s_Run___init__ ["self", "name", "start", "leaves", "takes", "goal"]
  m_Run___eq__ : MethT K ARun "__eq__" "Run.__eq__" s_Run___eq__ ["self", "other"]
  m_Run___str__ : MethT K ARun "__str__" "Run.__str__" s_Run___str__ ["self"]
  m_Stay___init__ : MethT K AStay "__init__" "Stay.__init__" s_Stay___init__ ["self", "name", "place", "leaves", "takes"]
  m_Stay___eq__ : MethT K AStay "__eq__" "Stay.__eq__" s_Stay___eq__ ["self", "other"]
  m_Stay___str__ : MethT K AStay "__str__" "Stay.__str__" s_Stay___str__ ["self"]
  d_check_trip : DefT K mg "check_trip" s_check_trip ["name", "places", "leaves", "takes"]
  d_words_of : DefT K mg "words_of" s_words_of ["trip"]
  d_law_pen : DefT K mg "_law_pen" s_law_pen ["script"]
  d_law_draw : DefT K mg "_law_draw" s_law_draw ["pen", "many"]
  d_law_pick : DefT K mg "_law_pick" s_law_pick ["pen", "some"]
  d_law_title : DefT K mg "_law_title" s_law_title ["pen"]
  d_law_number : DefT K mg "_law_number" s_law_number ["pen", "least"]
  d_law_kinds : DefT K mg "_law_kinds" s_law_kinds ["made"]
  d_law_parts : DefT K mg "_law_parts" s_law_parts ["made"]
  d_law_run_right : DefT K mg "_law_run_right" s_law_run_right ["pen", "parts"]
  d_law_stay_right : DefT K mg "_law_stay_right" s_law_stay_right ["pen", "parts"]
  d_law : DefT K mg "law" s_law ["script"]
  C_Trip : ClsT K mg "Trip" ATrip
  C_Paused : ClsT K mg "Paused" APaused
  C_Run : ClsT K mg "Run" ARun
  C_Stay : ClsT K mg "Stay" AStay
  R_Run : RefC K ARun
  ne_Run : PySem.W.findIn K (.ref ARun) "__ne__" = some (some (.builtin "object.__ne__"))
  ob_Run : PySem.W.mroIn K ARun (.type "object") = some true
  I_Run : IsT K ARun
  ss_Run : PySem.W.subIn K (.ref ARun) (.ref ARun) = some true
  na_Run_name : PySem.W.findIn K (.ref ARun) "name" = some none
  na_Run_start : PySem.W.findIn K (.ref ARun) "start" = some none
  na_Run_leaves : PySem.W.findIn K (.ref ARun) "leaves" = some none
  na_Run_takes : PySem.W.findIn K (.ref ARun) "takes" = some none
  na_Run_goal : PySem.W.findIn K (.ref ARun) "goal" = some none
  su_Run_Trip : PySem.W.subIn K (.ref ARun) (.ref ATrip) = some true
  su_Run_Paused : PySem.W.subIn K (.ref ARun) (.ref APaused) = some true
  su_Run_Stay : PySem.W.subIn K (.ref ARun) (.ref AStay) = some false
  nf_Run_Stay : PySem.W.notFirst K ARun (.ref AStay) = true
  nf_Run_NoneType : PySem.W.notFirst K ARun (.type "NoneType") = true
  nf_Run_int : PySem.W.notFirst K ARun (.type "int") = true
  nf_Run_bool : PySem.W.notFirst K ARun (.type "bool") = true
  nf_Run_str : PySem.W.notFirst K ARun (.type "str") = true
  nf_Run_tuple : PySem.W.notFirst K ARun (.type "tuple") = true
  nf_Run_list : PySem.W.notFirst K ARun (.type "list") = true
  sb_Run : PySem.W.subIn K (.type "bool") (.ref ARun) = some false
  R_Stay : RefC K AStay
  ne_Stay : PySem.W.findIn K (.ref AStay) "__ne__" = some (some (.builtin "object.__ne__"))
  ob_Stay : PySem.W.mroIn K AStay (.type "object") = some true
  I_Stay : IsT K AStay
  ss_Stay : PySem.W.subIn K (.ref AStay) (.ref AStay) = some true
  na_Stay_name : PySem.W.findIn K (.ref AStay) "name" = some none
  na_Stay_start : PySem.W.findIn K (.ref AStay) "start" = some none
  na_Stay_leaves : PySem.W.findIn K (.ref AStay) "leaves" = some none
  na_Stay_takes : PySem.W.findIn K (.ref AStay) "takes" = some none
  na_Stay_goal : PySem.W.findIn K (.ref AStay) "goal" = some none
  su_Stay_Trip : PySem.W.subIn K (.ref AStay) (.ref ATrip) = some true
  su_Stay_Paused : PySem.W.subIn K (.ref AStay) (.ref APaused) = some false
  su_Stay_Run : PySem.W.subIn K (.ref AStay) (.ref ARun) = some false
  nf_Stay_Run : PySem.W.notFirst K AStay (.ref ARun) = true
  nf_Stay_NoneType : PySem.W.notFirst K AStay (.type "NoneType") = true
  nf_Stay_int : PySem.W.notFirst K AStay (.type "int") = true
  nf_Stay_bool : PySem.W.notFirst K AStay (.type "bool") = true
  nf_Stay_str : PySem.W.notFirst K AStay (.type "str") = true
  nf_Stay_tuple : PySem.W.notFirst K AStay (.type "tuple") = true
  nf_Stay_list : PySem.W.notFirst K AStay (.type "list") = true
  sb_Stay : PySem.W.subIn K (.type "bool") (.ref AStay) = some false
  ic_Trip : PySem.W.isClsIn K ATrip = true
  ty_Trip : PySem.W.typeIn K (.ref ATrip) = some (.type "type")
  ic_Paused : PySem.W.isClsIn K APaused = true
  ty_Paused : PySem.W.typeIn K (.ref APaused) = some (.type "type")
  ic_Run : PySem.W.isClsIn K ARun = true
  ty_Run : PySem.W.typeIn K (.ref ARun) = some (.type "type")
  W_Run : OddK K ARun
  ic_Stay : PySem.W.isClsIn K AStay = true
  ty_Stay : PySem.W.typeIn K (.ref AStay) = some (.type "type")
  W_Stay : OddK K AStay
  g_MOST : GlT mg "MOST" (.int 1000000000000)
  g_LONGEST_NAME : GlT mg "LONGEST_NAME" (.int 8)
  b_isinstance : mg "isinstance" = none
  b_int : mg "int" = none
  b_bool : mg "bool" = none
  b_list : mg "list" = none
  b_len : mg "len" = none
  b_abs : mg "abs" = none
  b_range : mg "range" = none
  b_repr : mg "repr" = none
  b_str : mg "str" = none
  b_all : mg "all" = none
  b_max : mg "max" = none
  b_tuple : mg "tuple" = none

/-! ### the pen -/
def Pn (p l : Addr) (ns : List Int) (b : Int) (H : Hp) : Prop := ∃ (spot left : Int), H p = some (.lst [.ref l, .int spot, .int left]) ∧ H l = some (.lst (ns.map V.int)) ∧ 0 ≤ spot ∧ spot ≤ b ∧ 0 ≤ left ∧ ns.length ≤ 63
theorem Pn.ne {p l : Addr} {ns : List Int} {b : Int} {H : Hp} (h : Pn p l ns b H) : l ≠ p := by
  obtain ⟨s, t, h1, h2, _⟩ := h
  intro e
  subst e
  rw [h1] at h2
  cases ns with
  | nil => cases h2
  | cons a r => cases h2
theorem Pn.mono {p l : Addr} {ns : List Int} {b c : Int} {H : Hp} (h : Pn p l ns b H) (hc : b ≤ c) : Pn p l ns c H := by
  obtain ⟨s, t, h1, h2, h3, h4, h5⟩ := h
  exact ⟨s, t, h1, h2, h3, by omega, h5⟩
theorem Pn.same {p l : Addr} {ns : List Int} {b : Int} {H H' : Hp} (h : Pn p l ns b H) (e : Same H H') : Pn p l ns b H' := by
  obtain ⟨s, t, h1, h2, r⟩ := h
  exact ⟨s, t, e _ _ h1, e _ _ h2, r⟩
theorem Pn.at_ {p l : Addr} {ns : List Int} {b : Int} {H : Hp} (h : Pn p l ns b H) : ∃ o, H p = some o := let ⟨s, t, h1, _⟩ := h; ⟨_, h1⟩
def spPen (K : PySem.W.Frag) : Sp := fun vs H Q _ => ∃ (a : Addr) (ns : List Int), vs = [.ref a] ∧ SqL K H a (ns.map V.int) ∧ ns.length ≤ 63 ∧
  ∀ p l ms H', H p = none → Same H H' → Pn p l ms 0 H' → Q (.ref p) H'
def spDraw : Sp := fun vs H Q _ => ∃ p l ns b many, vs = [.ref p, .int many] ∧ Pn p l ns b H ∧ b ≤ 1000000 ∧ (0 < many ∧ many ≤ 10 ^ 60) ∧
  ∀ n H', 0 ≤ n ∧ n < many → Pn p l ns (b + 1) H' → But p H H' → Q (.int n) H'
def spPick (K : PySem.W.Frag) : Sp := fun vs H Q _ => ∃ p l ns b q xs, vs = [.ref p, .ref q] ∧ Pn p l ns b H ∧ b ≤ 1000000 ∧ SqL K H q xs ∧ q ≠ p ∧ (0 < xs.length ∧ xs.length ≤ 1000) ∧
  ∀ v H', v ∈ xs → Pn p l ns (b + 1) H' → But p H H' → Q v H'
section
variable {P : Program} {w : World} {K : PySem.W.Frag} {mg : Str → Option Value} {base : Heap} {ATrip APaused ARun AStay : Addr}
theorem c_law_pen (T : Txt K mg ATrip APaused ARun AStay) : CalF P w K mg base 1 "_law_pen" ["script"] (spPen K) := by
  refine T.d_law_pen.ok sc_law_pen (fun vs H Q E h => ?_) (fun f cdv A outer s H vs Q E hr h => ?_)
  · obtain ⟨a, ns, rfl, _⟩ := h
    rfl
  · obtain ⟨a, ns, rfl, hs, hn, k⟩ := h
    refine ⟨_, (pss_one (ps_ret (pe_lst (pa_cons (pe_callTy call_list_of (by rfl) T.b_list (by decide +kernel) (pa_cons (pe_slice sl_list (pv 0) po_none (po_some pe_int)) pa_nil)) (pa_cons pe_int (pa_cons pe_int pa_nil)))))), ?_⟩
    refine ⟨_, rfl, _, rfl, _, _, rfl, hs, fun p1 n1 => ?_⟩
    have ec : ∃ ms : List Int, cutV (ns.map V.int) none (some 63) = ms.map V.int ∧ ms.length ≤ ns.length := by
      refine ⟨(ns.drop (HT.sIx (ns.map V.int).length 0 none)).take (HT.sIx (ns.map V.int).length (ns.map V.int).length (some 63) - HT.sIx (ns.map V.int).length 0 none), ?_, ?_⟩
      · unfold cutV
        rw [List.map_take, List.map_drop]
      · rw [List.length_take, List.length_drop]
        omega
    obtain ⟨ms, e1, e2⟩ := ec
    rw [e1]
    refine ⟨p1, _, rfl, .inl (SqL.of upd_same), fun l nl => ?_⟩
    refine ⟨(by show 3 ≤ sizeLine; decide), fun p np => ?_⟩
    have s1 : Same H (upd H p1 (.lst (ms.map V.int))) := fun b o e => by rw [upd_ne (ne_of_none e n1)]; exact e
    have s2 : Same (upd H p1 (.lst (ms.map V.int))) (upd (upd H p1 (.lst (ms.map V.int))) l (.lst (ms.map V.int))) := fun b o e => by rw [upd_ne (ne_of_none e nl)]; exact e
    have s3 := s1.trans s2
    have s4 : Same H (upd (upd (upd H p1 (.lst (ms.map V.int))) l (.lst (ms.map V.int))) p (.lst [.ref l, .int 0, .int 0])) := s3.trans fun b o e => by rw [upd_ne (ne_of_none e np)]; exact e
    refine k p l ms _ (s3.free np) s4 ⟨0, 0, upd_same, ?_, by omega, by omega, by omega, by omega⟩
    rw [upd_ne (ne_of_none upd_same np), upd_same]
theorem c_law_draw (T : Txt K mg ATrip APaused ARun AStay) : CalF P w K mg base 1 "_law_draw" ["pen", "many"] spDraw := by
  refine T.d_law_draw.ok sc_law_draw (fun vs H Q E h => ?_) (fun f cdv A outer s H vs Q E hr h => ?_)
  · obtain ⟨p, l, ns, b, many, rfl, _⟩ := h
    rfl
  · obtain ⟨p, l, ns, b, many, rfl, hP, hb, hm, k⟩ := h
    have nlp := hP.ne
    obtain ⟨spot, left, hp, hl, h0, h1, h2, h3⟩ := hP
    have hdiv : ∀ x : Int, CDivW x many := fun x => wide_div (b := 200) hm.1 (by omega) (by decide) (by decide)
    refine ⟨_, (pss_cons (ps_if (pt_cmpR op_gt (pe_ix ix_list (pv 0) pe_int (fun _ _ => rfl)) pe_int (nomark _)) (pss_cons (ps_set (i := 2) sc_law_draw.nd rfl (Or.inl rfl) (pe_op op_mod (pe_callTy call_int1 (by rfl) T.b_int (by decide +kernel) (pa_cons (pe_ix ix_list (pv 0) pe_int (fun _ _ => rfl)) pa_nil)) (pv 1)))
      (pss_cons (ps_asg (pe_op op_fdivW (pe_callTy call_int1 (by rfl) T.b_int (by decide +kernel) (pa_cons (pe_ix ix_list (pv 0) pe_int (fun _ _ => rfl)) pa_nil)) (pv 1)) (pg_sub (pv 0) pe_int set_list))
      (pss_one (ps_ret (pv 2))))) pss_nil)
      (pss_cons (ps_set (i := 3) sc_law_draw.nd rfl (Or.inl rfl) (pe_ix ix_list (pv 0) pe_int (fun _ _ => rfl)))
      (pss_cons (ps_asg (pe_op op_add (pv 3) pe_int) (pg_sub (pv 0) pe_int set_list))
      (pss_cons (ps_set (i := 4) sc_law_draw.nd rfl (Or.inl rfl) (pe_op op_add (pe_op op_mul pe_int (pv 3)) pe_int))
      (C8.pss_cut (ps_if (pt_cmpR (op_neD hr.units) (pe_ix ix_list (pv 0) pe_int (fun _ _ => rfl)) (pe_lst pa_nil) (nomark _)) (pss_one (ps_set (i := 4) sc_law_draw.nd rfl (Or.inl rfl) (pe_ix ix_list (pe_ix ix_list (pv 0) pe_int (fun _ _ => rfl)) (pe_op op_mod (pe_callTy call_int1 (by rfl) T.b_int (by decide +kernel) (pa_cons (pv 3) pa_nil)) (pe_callB call_len_seq (by rfl) T.b_len (by decide +kernel) (pa_cons (pe_ix ix_list (pv 0) pe_int (fun _ _ => rfl)) pa_nil))) (fun _ _ => rfl)))) pss_nil)
      (C8.pss_cut (ps_if (PW.pt (pw_and (pt_cmpR op_lt (pv 3) (pe_callB call_len_seq (by rfl) T.b_len (by decide +kernel) (pa_cons (pe_ix ix_list (pv 0) pe_int (fun _ _ => rfl)) pa_nil)) (nomark _)) (pw_and1 (pt_cmpR op_ge (pe_callB call_abs (by rfl) T.b_abs (by decide +kernel) (pa_cons (pv 4) pa_nil)) (pe_op op_pow pe_int pe_int) (nomark _))))) (pss_cons (ps_set (i := 5) sc_law_draw.nd rfl (Or.inl rfl) (pe_op op_add (pe_op op_mul pe_int (pe_op op_sub (pe_callB call_abs (by rfl) T.b_abs (by decide +kernel) (pa_cons (pv 4) pa_nil)) (pe_op op_pow pe_int pe_int))) (pe_callTy call_int1 (by rfl) T.b_int (by decide +kernel) (pa_cons (pe_cmpR op_lt (pv 4) pe_int (nomark _)) pa_nil))))
      (pss_cons (ps_asg (pe_op op_fdivW (pe_callTy call_int1 (by rfl) T.b_int (by decide +kernel) (pa_cons (pv 5) pa_nil)) (pv 1)) (pg_sub (pv 0) pe_int set_list))
      (pss_one (ps_ret (pe_op op_mod (pe_callTy call_int1 (by rfl) T.b_int (by decide +kernel) (pa_cons (pv 5) pa_nil)) (pv 1)))))) pss_nil)
      (pss_cons (ps_set (i := 6) sc_law_draw.nd rfl (Or.inl rfl) (pe_op op_mod (pe_callTy call_int1 (by rfl) T.b_int (by decide +kernel) (pa_cons (pe_op op_pow (pe_op op_add (pe_op op_add (pe_op op_mod (pe_callTy call_int1 (by rfl) T.b_int (by decide +kernel) (pa_cons (pv 4) pa_nil)) pe_int) (pe_op op_mul pe_int (pv 3))) pe_int) pe_int) pa_nil)) pe_int))
      (pss_cons (ps_set (i := 6) sc_law_draw.nd rfl (Or.inl rfl) (pe_op op_mod (pe_callTy call_int1 (by rfl) T.b_int (by decide +kernel) (pa_cons (pe_op op_pow (pe_op op_add (pe_op op_add (pe_op op_mul (pv 6) (pe_op op_add (pe_op op_mul pe_int (pv 3)) pe_int)) (pe_op op_mul (pe_op op_mul pe_int (pv 3)) (pv 3))) pe_int) pe_int) pa_nil)) pe_int))
      (pss_one (ps_ret (pe_op op_mod (pe_callTy call_int1 (by rfl) T.b_int (by decide +kernel) (pa_cons (pe_op op_fdiv (pv 6) pe_int) pa_nil)) (pv 1)))))))))))), ?_⟩
    refine ⟨_, rfl, p, _, 2, _, rfl, rfl, SqL.of hp, rfl, _, _, rfl, rfl, _, rfl, ?_⟩
    refine ite2 (fun c => ?_) (fun c => ?_)
    · rw [decide_eq_true_eq] at c
      refine ⟨_, rfl, p, _, 2, _, rfl, rfl, SqL.of hp, rfl, .inl ⟨_, rfl, _, rfl, _, _, rfl, rfl, hm.1, ?_⟩⟩
      refine ⟨_, rfl, p, _, 2, _, rfl, rfl, SqL.of hp, rfl, .inl ⟨_, rfl, _, rfl, _, _, rfl, rfl, hdiv _, ?_⟩⟩
      refine ⟨_, rfl, p, _, 2, 2, rfl, rfl, hp, rfl, ?_⟩
      refine ⟨_, rfl, ?_⟩
      refine k _ _ ⟨Int.emod_nonneg _ (by omega), Int.emod_lt_of_pos _ hm.1⟩ ⟨spot, left / many, upd_same, ?_, h0, by omega, Int.ediv_nonneg h2 (by omega), h3⟩ But.upd
      rw [upd_ne nlp]
      exact hl
    · refine ⟨_, rfl, p, _, 1, _, rfl, rfl, SqL.of hp, rfl, ?_⟩
      refine ⟨_, rfl, _, _, rfl, rfl, _, rfl, p, _, 1, 1, rfl, rfl, hp, rfl, ?_⟩
      have hp1 : (upd H p (.lst [.ref l, .int (spot + 1), .int left])) p = some (.lst [.ref l, .int (spot + 1), .int left]) := upd_same
      have hl1 : (upd H p (.lst [.ref l, .int (spot + 1), .int left])) l = some (.lst (ns.map V.int)) := by rw [upd_ne nlp]; exact hl
      have hB1 : But p H (upd H p (.lst [.ref l, .int (spot + 1), .int left])) := But.upd
      refine ⟨_, rfl, _, _, rfl, rfl, .inl ⟨by decide, by decide⟩, _, _, rfl, rfl, ?_⟩
      refine ⟨fun σ H2 => ∃ c : Int, σ = [some (.ref p), some (.int many), none, some (.int spot), some (.int c), none, none] ∧ H2 p = some (.lst [.ref l, .int (spot + 1), .int left]) ∧ H2 l = some (.lst (ns.map V.int)) ∧ But p H H2, ?_, ?_⟩
      · refine ⟨_, rfl, p, _, 0, _, rfl, rfl, SqL.of hp1, rfl, (by show 0 ≤ sizeLine; decide), fun q nq => ?_⟩
        have hp2 : (upd (upd H p (.lst [.ref l, .int (spot + 1), .int left])) q (.lst [])) p = some (.lst [.ref l, .int (spot + 1), .int left]) := (upd_ne (ne_of_none hp1 nq)).trans hp1
        have hl2 : (upd (upd H p (.lst [.ref l, .int (spot + 1), .int left])) q (.lst [])) l = some (.lst (ns.map V.int)) := (upd_ne (ne_of_none hl1 nq)).trans hl1
        have hB2 : But p H (upd (upd H p (.lst [.ref l, .int (spot + 1), .int left])) q (.lst [])) := hB1.trans (But.new nq)
        refine ⟨.list (ns.map PyData.int), .list [], .lst (SqL.of hl2) (dp_ints ns), .lst (SqL.of upd_same) .nil, shaped_ints ns, by decide, ?_⟩
        rw [eqv_nil]
        refine ⟨_, rfl, ?_⟩
        cases he : ns.isEmpty with
        | true => exact iteF ⟨_, rfl, hp2, hl2, hB2⟩
        | false =>
          refine iteT ?_
          have hlen : 0 < (ns.map V.int).length := by
            cases ns with
            | nil => cases he
            | cons a r => simp
          refine ⟨_, rfl, p, _, 0, _, rfl, rfl, SqL.of hp2, rfl, ?_⟩
          refine ⟨_, rfl, .inl ⟨_, rfl, _, rfl, p, _, 0, _, rfl, rfl, SqL.of hp2, rfl, l, _, rfl, .inl (SqL.of hl2), _, _, rfl, rfl, (by show (0 : Int) < _; omega), ?_⟩⟩
          obtain ⟨c, hc⟩ := at_ex (ns := ns) (i := spot % ((ns.map V.int).length : Int)) (Int.emod_nonneg _ (by omega)) (Int.emod_lt_of_pos _ (by omega))
          exact ⟨l, _, _, _, rfl, rfl, SqL.of hl2, hc, c, rfl, hp2, hl2, hB2⟩
      · rintro σ H2 ⟨c, rfl, hp2, hl2, hB2⟩
        have small : 0 ≤ c % 2147483563 + 61369 * spot + 857 ∧ c % 2147483563 + 61369 * spot + 857 < 2 ^ 60 := by omega
        refine ⟨fun σ H3 => σ = [some (.ref p), some (.int many), none, some (.int spot), some (.int c), none, none] ∧ H3 = H2, ?_, ?_⟩
        · refine ⟨_, rfl, _, rfl, p, _, 0, _, rfl, rfl, SqL.of hp2, rfl, l, _, rfl, .inl (SqL.of hl2), _, _, rfl, rfl, _, rfl, ?_⟩
          refine ite2 (fun c1 => ?_) (fun c1 => iteF ⟨rfl, rfl⟩)
          refine ⟨_, rfl, _, rfl, _, _, rfl, rfl, ⟨by decide, by decide, by decide⟩, _, _, rfl, rfl, _, rfl, ?_⟩
          refine ite2 (fun c2 => ?_) (fun c2 => ⟨rfl, rfl⟩)
          rw [decide_eq_true_eq] at c2
          refine ⟨_, rfl, _, rfl, _, _, rfl, rfl, ⟨by decide, by decide, by decide⟩, _, _, rfl, rfl, _, _, rfl, rfl, .inl ⟨by decide, by decide⟩, ?_⟩
          refine ⟨_, rfl, _, _, rfl, rfl, .inr ⟨_, rfl, _, _, rfl, rfl, ?_⟩⟩
          refine ⟨_, rfl, .inl ⟨_, rfl, _, rfl, _, _, rfl, rfl, hdiv _, _, rfl, p, _, 2, 2, rfl, rfl, hp2, rfl, ?_⟩⟩
          refine ⟨_, rfl, .inl ⟨_, rfl, _, rfl, _, _, rfl, rfl, hm.1, ?_⟩⟩
          refine k _ _ ⟨Int.emod_nonneg _ (by omega), Int.emod_lt_of_pos _ hm.1⟩ ⟨spot + 1, _, upd_same, ?_, by omega, by omega, Int.ediv_nonneg ?_ (by omega), h3⟩ (hB2.trans But.upd)
          · rw [upd_ne nlp]
            exact hl2
          · have e18 : (10 : Int) ^ Int.toNat 18 = 1000000000000000000 := by decide
            rw [e18] at c2 ⊢
            split at c2 <;> split <;> omega
        · rintro σ H3 ⟨rfl, rfl⟩
          refine ⟨_, rfl, .inl ⟨_, rfl, _, _, rfl, rfl, (by show (0 : Int) < 2147483563; decide), ?_⟩⟩
          refine ⟨_, rfl, _, _, rfl, rfl, .inl ⟨by decide, by decide⟩, _, _, rfl, rfl, _, _, rfl, rfl, _, _, rfl, rfl, ⟨by decide, by decide, by omega⟩, .inl ⟨_, rfl, _, _, rfl, rfl, (by show (0 : Int) < 2147483629; decide), ?_⟩⟩
          have hz0 : 0 ≤ (c % 2147483563 + 61369 * spot + 857) ^ Int.toNat 5 % 2147483629 ∧ (c % 2147483563 + 61369 * spot + 857) ^ Int.toNat 5 % 2147483629 ≤ 2147483700 :=
            ⟨Int.emod_nonneg _ (by decide), by have := Int.emod_lt_of_pos ((c % 2147483563 + 61369 * spot + 857) ^ Int.toNat 5) (b := 2147483629) (by decide); omega⟩
          have hu := mul_bnd (b := 2 * spot + 235) (A := 2147483700) (B := 2001000) hz0 ⟨by omega, by omega⟩
          have hs := mul_bnd (a := 36187 * spot) (b := spot) (A := 100000000000) (B := 1000000) ⟨by omega, by omega⟩ ⟨by omega, by omega⟩
          refine ⟨_, rfl, _, rfl, _, _, rfl, rfl, .inl ⟨by decide, by decide⟩, _, _, rfl, rfl, _, _, rfl, rfl, .inl ⟨by omega, by omega⟩, ?_⟩
          refine ⟨_, rfl, _, _, rfl, rfl, .inl ⟨by decide, by decide⟩, _, rfl, _, _, rfl, rfl, .inl ⟨by omega, by omega⟩, ?_⟩
          refine ⟨_, _, rfl, rfl, _, _, rfl, rfl, _, _, rfl, rfl, ⟨by decide, by decide, by omega⟩, .inl ⟨_, rfl, _, _, rfl, rfl, (by show (0 : Int) < 2147483587; decide), ?_⟩⟩
          refine ⟨_, rfl, _, _, rfl, rfl, ⟨by decide, by decide⟩, .inl ⟨_, rfl, _, rfl, _, _, rfl, rfl, hm.1, ?_⟩⟩
          exact k _ H3 ⟨Int.emod_nonneg _ (by omega), Int.emod_lt_of_pos _ hm.1⟩ ⟨spot + 1, left, hp2, hl2, by omega, by omega, h2, h3⟩ hB2
theorem c_law_pick (T : Txt K mg ATrip APaused ARun AStay) : CalF P w K mg base 2 "_law_pick" ["pen", "some"] (spPick K) := by
  have c_law_draw := c_law_draw (P := P) (w := w) (base := base) T
  refine T.d_law_pick.ok sc_law_pick (fun vs H Q E h => ?_) (fun f cdv A outer s H vs Q E hr h => ?_)
  · obtain ⟨p, l, ns, b, q, xs, rfl, _⟩ := h
    rfl
  · obtain ⟨p, l, ns, b, q, xs, rfl, hP, hb, hq, hne, hx, k⟩ := h
    refine ⟨_, (pss_one (ps_ret (pe_ix ix_list (pv 1) (pe_f c_law_draw hr (pa_cons (pv 0) (pa_cons (pe_callB call_len_seq (by rfl) T.b_len (by decide +kernel) (pa_cons (pv 1) pa_nil)) pa_nil))) (fun _ _ => rfl)))), ?_⟩
    refine ⟨_, rfl, _, rfl, _, rfl, q, _, rfl, .inl hq, p, l, ns, b, _, rfl, hP, hb, ⟨by omega, by omega⟩, fun n H' hn hP' hB => ?_⟩
    obtain ⟨v, hv, e⟩ := at_ex' hn.1 hn.2
    exact ⟨q, _, _, v, rfl, rfl, hq.but hB hne, e, k v H' hv hP' hB⟩
end

/-! ### kinds -/
def spIsInt (K : PySem.W.Frag) : Sp := fun vs H Q _ => ∃ v b, vs = [v] ∧ Knd K H v b ∧ Q (.bl b) H
def spNum1 (K : PySem.W.Frag) : Sp := fun vs H Q _ => ∃ v b, vs = [v] ∧ Knd K H v b ∧ Q (.bl (isNum1 v)) H
def spNum0 (K : PySem.W.Frag) : Sp := fun vs H Q _ => ∃ v b, vs = [v] ∧ Knd K H v b ∧ Q (.bl (isNum0 v)) H
def spIsName : Sp := fun vs H Q _ => ∃ z, vs = [.str z] ∧ nm z = true ∧ Q (.bl true) H
section
variable {P : Program} {w : World} {K : PySem.W.Frag} {mg : Str → Option Value} {base : Heap} {ATrip APaused ARun AStay : Addr}
theorem c_is_int (T : Txt K mg ATrip APaused ARun AStay) : CalF P w K mg base 1 "is_int" ["value"] (spIsInt K) := by
  refine T.d_is_int.ok sc_is_int (fun vs H Q E h => ?_) (fun f cdv A outer s H vs Q E hr h => ?_)
  · obtain ⟨v, b, rfl, _⟩ := h
    rfl
  · obtain ⟨v, b, rfl, hk, q⟩ := h
    refine ⟨_, (pss_one (ps_ret (pe_and (pe_callB call_isi (by rfl) T.b_isinstance (by decide +kernel) (pa_cons (pv 0) (pa_cons (pe_bltn (v := .ty "int") rfl T.b_int (by decide +kernel) rfl) pa_nil))) (pe_one (pe_not (pe_callB call_isi (by rfl) T.b_isinstance (by decide +kernel) (pa_cons (pv 0) (pa_cons (pe_bltn (v := .ty "bool") rfl T.b_bool (by decide +kernel) rfl) pa_nil)))))))), ?_⟩
    cases hk with
    | int n =>
      refine ⟨_, rfl, _, _, _, _, _, rfl, .ty _, .base (.int _), kit_ii, ?_⟩
      refine ⟨_, rfl, iteT ?_⟩
      refine ⟨_, rfl, _, _, _, _, _, rfl, .ty _, .base (.int _), kit_ib, ?_⟩
      exact ⟨_, rfl, q⟩
    | bl b =>
      refine ⟨_, rfl, _, _, _, _, _, rfl, .ty _, .base (.bl _), kit_bi, ?_⟩
      refine ⟨_, rfl, iteT ?_⟩
      refine ⟨_, rfl, _, _, _, _, _, rfl, .ty _, .base (.bl _), kit_self _, ?_⟩
      exact ⟨_, rfl, q⟩
    | oth ty n =>
      refine ⟨_, rfl, _, _, _, _, _, rfl, .ty _, ty, n, ?_⟩
      exact ⟨_, rfl, iteF q⟩
theorem c_is_number_from_one (T : Txt K mg ATrip APaused ARun AStay) : CalF P w K mg base 2 "is_number_from_one" ["value"] (spNum1 K) := by
  have c_is_int := c_is_int (P := P) (w := w) (base := base) T
  refine T.d_is_number_from_one.ok sc_is_number_from_one (fun vs H Q E h => ?_) (fun f cdv A outer s H vs Q E hr h => ?_)
  · obtain ⟨v, b, rfl, _⟩ := h
    rfl
  · obtain ⟨v, b, rfl, hk, q⟩ := h
    refine ⟨_, (pss_one (ps_ret (pe_and (pe_f c_is_int hr (pa_cons (pv 0) pa_nil)) (pe_one (pe_chain op_le op_le pe_int (pv 0) (pe_gl T.g_MOST) ))))), ?_⟩
    refine ⟨_, rfl, _, _, rfl, hk, ?_⟩
    cases b with
    | false =>
      rw [isNum1_no hk.noInt] at q
      exact ⟨_, rfl, iteF q⟩
    | true =>
      obtain ⟨n, rfl⟩ := hk.isInt
      refine ⟨_, rfl, iteT ?_⟩
      refine ⟨_, rfl, _, _, rfl, rfl, _, rfl, ?_⟩
      have q : Q (.bl (decide (1 ≤ n ∧ n ≤ 1000000000000))) H := q
      refine ite2 (fun h1 => ?_) (fun h1 => ?_)
      · rw [decide_eq_true_eq] at h1
        refine ⟨_, _, rfl, rfl, ?_⟩
        have e : decide (1 ≤ n ∧ n ≤ 1000000000000) = decide (n ≤ 1000000000000) := by simp [h1]
        rw [e] at q
        exact q
      · rw [decide_eq_true_eq] at h1
        have e : decide (1 ≤ n ∧ n ≤ 1000000000000) = false := by simp [h1]
        rw [e] at q
        exact q
theorem c_is_number (T : Txt K mg ATrip APaused ARun AStay) : CalF P w K mg base 2 "is_number" ["value"] (spNum0 K) := by
  have c_is_int := c_is_int (P := P) (w := w) (base := base) T
  refine T.d_is_number.ok sc_is_number (fun vs H Q E h => ?_) (fun f cdv A outer s H vs Q E hr h => ?_)
  · obtain ⟨v, b, rfl, _⟩ := h
    rfl
  · obtain ⟨v, b, rfl, hk, q⟩ := h
    refine ⟨_, (pss_one (ps_ret (pe_and (pe_f c_is_int hr (pa_cons (pv 0) pa_nil)) (pe_one (pe_chain op_le op_le pe_int (pv 0) (pe_gl T.g_MOST) ))))), ?_⟩
    refine ⟨_, rfl, _, _, rfl, hk, ?_⟩
    cases b with
    | false =>
      rw [isNum0_no hk.noInt] at q
      exact ⟨_, rfl, iteF q⟩
    | true =>
      obtain ⟨n, rfl⟩ := hk.isInt
      refine ⟨_, rfl, iteT ?_⟩
      refine ⟨_, rfl, _, _, rfl, rfl, _, rfl, ?_⟩
      have q : Q (.bl (decide (0 ≤ n ∧ n ≤ 1000000000000))) H := q
      refine ite2 (fun h1 => ?_) (fun h1 => ?_)
      · rw [decide_eq_true_eq] at h1
        refine ⟨_, _, rfl, rfl, ?_⟩
        have e : decide (0 ≤ n ∧ n ≤ 1000000000000) = decide (n ≤ 1000000000000) := by simp [h1]
        rw [e] at q
        exact q
      · rw [decide_eq_true_eq] at h1
        have e : decide (0 ≤ n ∧ n ≤ 1000000000000) = false := by simp [h1]
        rw [e] at q
        exact q
theorem c_is_name (T : Txt K mg ATrip APaused ARun AStay) : CalF P w K mg base 1 "is_name" ["value"] spIsName := by
  refine T.d_is_name.ok sc_is_name (fun vs H Q E h => ?_) (fun f cdv A outer s H vs Q E hr h => ?_)
  · obtain ⟨z, rfl, _⟩ := h
    rfl
  · obtain ⟨z, rfl, hn, q⟩ := h
    obtain ⟨h1, h2, h3, h4, _⟩ := nm_all hn
    refine ⟨_, (pss_cons (ps_if (PW.pt (pw_or (pt_not (pt_val (pe_callB call_isi (by rfl) T.b_isinstance (by decide +kernel) (pa_cons (pv 0) (pa_cons (pe_bltn (v := .ty "str") rfl T.b_str (by decide +kernel) rfl) pa_nil))))) (pw_or1 (pt_cmpR op_gt (pe_callB call_len (by rfl) T.b_len (by decide +kernel) (pa_cons (pv 0) pa_nil)) (pe_gl T.g_LONGEST_NAME) (nomark _))))) (pss_one (ps_ret pe_bl)) pss_nil)
      (pss_one (ps_ret (pe_and (pe_bm0 PySem.F.plainAttrs_str PySem.F.slot_str_isascii PySem.F.type_str_isascii mt_isascii (pv 0)) (pe_and (pe_bm0 PySem.F.plainAttrs_str PySem.F.slot_str_isalpha PySem.F.type_str_isalpha mt_isalpha (pv 0)) (pe_one (pe_bm0 PySem.F.plainAttrs_str PySem.F.slot_str_islower PySem.F.type_str_islower mt_islower (pv 0)))))))), ?_⟩
    refine ⟨_, rfl, _, _, _, _, _, rfl, .ty _, .base (.str _), kit_self _, ?_⟩
    refine ⟨_, rfl, iteNF rfl ?_⟩
    refine ⟨_, rfl, _, _, rfl, ⟨(by have := sizeLine_eq; omega), rfl⟩, _, _, rfl, rfl, _, rfl, iteDF (by omega) ?_⟩
    refine ⟨_, rfl, rfl, _, rfl, rfl, trivial, _, rfl, iteN h1 ?_⟩
    refine ⟨_, rfl, rfl, _, rfl, rfl, trivial, _, rfl, iteN h2 ?_⟩
    refine ⟨_, rfl, rfl, _, rfl, rfl, trivial, ?_⟩
    rw [h3]
    exact q
end

/-! ### trips -/
def spCheck (K : PySem.W.Frag) : Sp := fun vs H Q _ => ∃ (n : Str) (tp : Addr) (l t : Int) (zs : List Str), vs = [.str n, .ref tp, .int l, .int t] ∧ H tp = some (.tup (zs.map V.str)) ∧ (∀ z ∈ zs, nm z = true) ∧ nm n = true ∧ (0 ≤ l ∧ l ≤ 1000000000000) ∧ (1 ≤ t ∧ t ≤ 1000000000000) ∧ zs.length ≤ 2 ∧
  ∀ H', Same H H' → Q .non H'
def spRunInit (C : Addr) : Sp := fun vs H Q _ => ∃ p dx d, vs = .ref p :: tdV d ∧ H p = some (.ins C dx []) ∧ d.ok ∧ ∀ H', TrAt C H' p d → But p H H' → Q .non H'
def spStayInit (C : Addr) : Sp := fun vs H Q _ => ∃ p dx d, vs = .ref p :: tdV4 d ∧ H p = some (.ins C dx []) ∧ d.ok ∧ d.g = d.s ∧ ∀ H', TrAt C H' p d → But p H H' → Q .non H'
def spRun (C : Addr) : Sp := fun vs H Q _ => ∃ d, vs = tdV d ∧ d.ok ∧ ∀ q H', H q = none → Same H H' → TrAt C H' q d → Q (.ref q) H'
def spStay (C : Addr) : Sp := fun vs H Q _ => ∃ d, vs = tdV4 d ∧ d.ok ∧ d.g = d.s ∧ ∀ q H', H q = none → Same H H' → TrAt C H' q d → Q (.ref q) H'
def spWords (A B : Addr) : Sp := fun vs H Q _ => ∃ a d ws, vs = [.ref a] ∧ d.ok ∧ ((TrAt A H a d ∧ ws = wordsR d) ∨ (TrAt B H a d ∧ ws = wordsS d)) ∧ ∀ q, H q = none → Q (.ref q) (upd H q (.lst (ws.map V.str)))
def spEqR (K : PySem.W.Frag) (C : Addr) (f : TD → List Str) : Sp := fun vs H Q _ => ∃ a d v, vs = [.ref a, v] ∧ d.ok ∧ TrAt C H a d ∧ ((∃ b e, v = .ref b ∧ e.ok ∧ TrAt C H b e ∧ ∀ H', Same H H' → Q (.bl (decide (f d = f e))) H') ∨ (∃ t, TyX K H v t ∧ PySem.W.kitOne K t (.ref C) = some false ∧ Q (.bl false) H))
def spStrR (C : Addr) (f : TD → List Str) : Sp := fun vs H Q _ => ∃ a d, vs = [.ref a] ∧ d.ok ∧ TrAt C H a d ∧ ∀ H', Same H H' → Q (.str (Txt.join " " (f d))) H'
section
variable {P : Program} {w : World} {K : PySem.W.Frag} {mg : Str → Option Value} {base : Heap} {ATrip APaused ARun AStay : Addr}
theorem tr_Run (T : Txt K mg ATrip APaused ARun AStay) : TrC K ARun := ⟨T.C_Run.cl, T.I_Run, T.na_Run_name, T.na_Run_start, T.na_Run_leaves, T.na_Run_takes, T.na_Run_goal, T.ss_Run⟩
theorem tr_Stay (T : Txt K mg ATrip APaused ARun AStay) : TrC K AStay := ⟨T.C_Stay.cl, T.I_Stay, T.na_Stay_name, T.na_Stay_start, T.na_Stay_leaves, T.na_Stay_takes, T.na_Stay_goal, T.ss_Stay⟩
theorem c_check_trip (T : Txt K mg ATrip APaused ARun AStay) : CalF P w K mg base 3 "check_trip" ["name", "places", "leaves", "takes"] (spCheck K) := by
  have c_is_name := c_is_name (P := P) (w := w) (base := base) T
  have c_is_number := c_is_number (P := P) (w := w) (base := base) T
  have c_is_number_from_one := c_is_number_from_one (P := P) (w := w) (base := base) T
  refine T.d_check_trip.ok sc_check_trip (fun vs H Q E h => ?_) (fun f cdv A outer s H vs Q E hr h => ?_)
  · obtain ⟨n, tp, l, t, zs, rfl, _⟩ := h
    rfl
  · obtain ⟨n, tp, l, t, zs, rfl, htp, hzs, hn, hl, ht, hz, k⟩ := h
    refine ⟨_, (pss_cons (ps_if (pt_not (pt_val (pe_f c_is_name hr (pa_cons (pv 0) pa_nil)))) (pss_one ps_never) pss_nil)
      (pss_cons (ps_if (pt_not (pt_val (pe_callB (cr_all rfl) (by rfl) T.b_all (by decide +kernel) (pa_cons (pe_lc (own := [("place", 4)]) (tt := tYes) rfl sc_check_trip.nd (pi_tup (pv 1)) (blkOk_by (N := ["name", "places", "leaves", "takes", "place"]) (sc := defScope s_check_trip) (by decide +kernel)) (fun _ _ _ _ _ => (pg_name (i := 4) sc_check_trip.nd rfl (Or.inl rfl))) (fun _ _ _ _ _ => pts_nil) (fun _ _ _ _ _ => (pe_f c_is_name hr (pa_cons (pv 4) pa_nil)))) pa_nil)))) (pss_one ps_never) pss_nil)
      (pss_cons (ps_if (pt_not (pt_val (pe_f c_is_number hr (pa_cons (pv 2) pa_nil)))) (pss_one ps_never) pss_nil)
      (pss_one (ps_if (pt_not (pt_val (pe_f c_is_number_from_one hr (pa_cons (pv 3) pa_nil)))) (pss_one ps_never) pss_nil))))), ?_⟩
    refine ⟨_, rfl, _, rfl, hn, _, rfl, iteNF rfl ?_⟩
    refine ⟨_, rfl, tp, rfl, ⟨_, SqT.of htp⟩, fun D nD => ?_⟩
    refine lc_tup (K := K) (a := tp) (xs := zs.map V.str) (fun i H' => H' D = some (.lst (List.replicate i (.bl true))) ∧ Same H H') ⟨upd_same, Same.new1 nD⟩ (fun i H' _ ⟨_, sm⟩ => SqT.of (sm _ _ htp)) ?_ ?_
    · rintro i x H' hx ⟨hD, sm⟩
      have hi : i < (zs.map V.str).length := (List.getElem?_eq_some_iff.mp hx).1
      obtain ⟨z, hz1, rfl⟩ := List.mem_map.mp (List.mem_of_getElem? hx)
      rw [List.length_map] at hi
      refine ⟨rfl, _, rfl, z, rfl, hzs z hz1, _, hD, (by rw [List.length_replicate]; have := sizeLine_eq; omega), ?_, ?_⟩
      · rw [upd_same, List.replicate_succ']
      · exact fun b o e => by rw [upd_ne (ne_of_none e nD)]; exact sm _ _ e
    · rintro H' ⟨hD, sm⟩
      rw [List.length_map] at hD
      refine ⟨D, List.replicate zs.length true, rfl, SqL.of (by rw [List.map_replicate]; exact hD), _, rfl, iteNF (by simp) ?_⟩
      refine ⟨_, rfl, _, _, rfl, .int _, _, rfl, iteNS hl ?_⟩
      refine ⟨_, rfl, _, _, rfl, .int _, _, rfl, iteNS ht ?_⟩
      exact k _ sm
theorem c_Run___init__ (T : Txt K mg ATrip APaused ARun AStay) : MetF P w K mg base 4 ARun "__init__" ["self", "name", "start", "leaves", "takes", "goal"] (spRunInit ARun) := by
  have c_check_trip := c_check_trip (P := P) (w := w) (base := base) T
  refine T.m_Run___init__.ok sc_Run___init__ (fun vs H Q E h => ?_) (fun f cdv A outer s H vs Q E hr h => ?_)
  · obtain ⟨p, dx, d, rfl, _⟩ := h
    rfl
  · obtain ⟨p, dx, d, rfl, hp, ok, k⟩ := h
    obtain ⟨h1, h2, h3, h4, h5⟩ := id ok
    refine ⟨_, (pss_cons (ps_expr (pe_f c_check_trip hr (pa_cons (pv 1) (pa_cons (pe_tup (pa_cons (pv 2) (pa_cons (pv 5) pa_nil))) (pa_cons (pv 3) (pa_cons (pv 4) pa_nil))))))
      (pss_cons (ps_fld (pv 0) (pv 1) rfl)
      (pss_cons (ps_fld (pv 0) (pv 2) rfl)
      (pss_cons (ps_fld (pv 0) (pv 3) rfl)
      (pss_cons (ps_fld (pv 0) (pv 4) rfl)
      (pss_one (ps_fld (pv 0) (pv 5) rfl))))))), ?_⟩
    refine ⟨_, rfl, _, rfl, _, rfl, (by show 2 ≤ sizeLine; decide), fun tp ntp => ?_⟩
    have hp1 : (upd H tp (.tup ([d.s, d.g].map V.str))) p = some (.ins ARun dx []) := (Same.new1 ntp) _ _ hp
    refine ⟨_, rfl, _, rfl, d.n, tp, d.l, d.t, [d.s, d.g], rfl, upd_same, fun z hz => by
      simp only [List.mem_cons, List.not_mem_nil, or_false] at hz
      rcases hz with rfl | rfl <;> assumption, h1, h4, h5, (by simp), fun H2 sm => ?_⟩
    have hp2 := sm _ _ hp1
    refine ⟨_, rfl, _, rfl, p, ARun, dx, _, rfl, hp2, T.C_Run.cl, T.na_Run_name, (by show 0 < 1000; decide), ?_⟩
    refine ⟨_, rfl, _, rfl, p, ARun, dx, _, rfl, upd_same, T.C_Run.cl, T.na_Run_start, (by show 1 < 1000; decide), ?_⟩
    refine ⟨_, rfl, _, rfl, p, ARun, dx, _, rfl, upd_same, T.C_Run.cl, T.na_Run_leaves, (by show 2 < 1000; decide), ?_⟩
    refine ⟨_, rfl, _, rfl, p, ARun, dx, _, rfl, upd_same, T.C_Run.cl, T.na_Run_takes, (by show 3 < 1000; decide), ?_⟩
    refine ⟨_, rfl, _, rfl, p, ARun, dx, _, rfl, upd_same, T.C_Run.cl, T.na_Run_goal, (by show 4 < 1000; decide), ?_⟩
    refine k _ ⟨dx, upd_same⟩ ?_
    exact (((((But.new ntp).trans (But.of sm)).trans But.upd).trans But.upd).trans But.upd).trans (But.upd.trans But.upd)
theorem c_Stay___init__ (T : Txt K mg ATrip APaused ARun AStay) : MetF P w K mg base 4 AStay "__init__" ["self", "name", "place", "leaves", "takes"] (spStayInit AStay) := by
  have c_check_trip := c_check_trip (P := P) (w := w) (base := base) T
  refine T.m_Stay___init__.ok sc_Stay___init__ (fun vs H Q E h => ?_) (fun f cdv A outer s H vs Q E hr h => ?_)
  · obtain ⟨p, dx, d, rfl, _⟩ := h
    rfl
  · obtain ⟨p, dx, d, rfl, hp, ok, gd, k⟩ := h
    obtain ⟨h1, h2, h3, h4, h5⟩ := id ok
    refine ⟨_, (pss_cons (ps_expr (pe_f c_check_trip hr (pa_cons (pv 1) (pa_cons (pe_tup (pa_cons (pv 2) pa_nil)) (pa_cons (pv 3) (pa_cons (pv 4) pa_nil))))))
      (pss_cons (ps_fld (pv 0) (pv 1) rfl)
      (pss_cons (ps_fld (pv 0) (pv 2) rfl)
      (pss_cons (ps_fld (pv 0) (pv 3) rfl)
      (pss_cons (ps_fld (pv 0) (pv 4) rfl)
      (pss_one (ps_fld (pv 0) (pv 2) rfl))))))), ?_⟩
    refine ⟨_, rfl, _, rfl, (by show 1 ≤ sizeLine; decide), fun tp ntp => ?_⟩
    have hp1 : (upd H tp (.tup ([d.s].map V.str))) p = some (.ins AStay dx []) := (Same.new1 ntp) _ _ hp
    refine ⟨_, rfl, _, rfl, d.n, tp, d.l, d.t, [d.s], rfl, upd_same, fun z hz => by
      simp only [List.mem_cons, List.not_mem_nil, or_false] at hz
      rcases hz with rfl; assumption, h1, h4, h5, (by simp), fun H2 sm => ?_⟩
    have hp2 := sm _ _ hp1
    refine ⟨_, rfl, _, rfl, p, AStay, dx, _, rfl, hp2, T.C_Stay.cl, T.na_Stay_name, (by show 0 < 1000; decide), ?_⟩
    refine ⟨_, rfl, _, rfl, p, AStay, dx, _, rfl, upd_same, T.C_Stay.cl, T.na_Stay_start, (by show 1 < 1000; decide), ?_⟩
    refine ⟨_, rfl, _, rfl, p, AStay, dx, _, rfl, upd_same, T.C_Stay.cl, T.na_Stay_leaves, (by show 2 < 1000; decide), ?_⟩
    refine ⟨_, rfl, _, rfl, p, AStay, dx, _, rfl, upd_same, T.C_Stay.cl, T.na_Stay_takes, (by show 3 < 1000; decide), ?_⟩
    refine ⟨_, rfl, _, rfl, p, AStay, dx, _, rfl, upd_same, T.C_Stay.cl, T.na_Stay_goal, (by show 4 < 1000; decide), ?_⟩
    refine k _ ⟨dx, by rw [upd_same]; unfold trF; rw [gd]⟩ ?_
    exact (((((But.new ntp).trans (But.of sm)).trans But.upd).trans But.upd).trans But.upd).trans (But.upd.trans But.upd)
theorem n_Run (T : Txt K mg ATrip APaused ARun AStay) : NewF P w K mg base 4 "Run" ARun ["self", "name", "start", "leaves", "takes", "goal"] (spRun ARun) := by
  refine ⟨_, c_Run___init__ T, T.C_Run, fun vs H Q h p dx np nd ne => ?_⟩
  obtain ⟨d, rfl, ok, k⟩ := h
  refine ⟨p, dx, d, rfl, upd_same, ok, fun H' t b => ⟨rfl, k p H' np (fun c o e => ?_) t⟩⟩
  refine b c o ?_ (ne_of_none e np)
  rw [upd_ne (ne_of_none e np), upd_ne (ne_of_none e nd)]
  exact e
theorem n_Stay (T : Txt K mg ATrip APaused ARun AStay) : NewF P w K mg base 4 "Stay" AStay ["self", "name", "place", "leaves", "takes"] (spStay AStay) := by
  refine ⟨_, c_Stay___init__ T, T.C_Stay, fun vs H Q h p dx np nd ne => ?_⟩
  obtain ⟨d, rfl, ok, gd, k⟩ := h
  refine ⟨p, dx, d, rfl, upd_same, ok, gd, fun H' t b => ⟨rfl, k p H' np (fun c o e => ?_) t⟩⟩
  refine b c o ?_ (ne_of_none e np)
  rw [upd_ne (ne_of_none e np), upd_ne (ne_of_none e nd)]
  exact e
theorem c_words_of (T : Txt K mg ATrip APaused ARun AStay) : CalF P w K mg base 1 "words_of" ["trip"] (spWords ARun AStay) := by
  refine T.d_words_of.ok sc_words_of (fun vs H Q E h => ?_) (fun f cdv A outer s H vs Q E hr h => ?_)
  · obtain ⟨a, d, ws, rfl, _⟩ := h
    rfl
  · obtain ⟨a, d, ws, rfl, ok, h, k⟩ := h
    have b4 := int_log2 (num_small ok.2.2.2.1)
    have b5 := int_log2 (num_small (i := d.t) ⟨by have := ok.2.2.2.2; omega, by have := ok.2.2.2.2; omega⟩)
    refine ⟨_, (pss_cons (ps_if (pt_val (pe_callB call_isi (by rfl) T.b_isinstance (by decide +kernel) (pa_cons (pv 0) (pa_cons (pe_glob (v := .ref ARun) rfl T.C_Run.mgC rfl) pa_nil)))) (pss_one (ps_ret (pe_lst (pa_cons pe_str (pa_cons (pe_fld (pv 0) rfl) (pa_cons (pe_fld (pv 0) rfl) (pa_cons (pe_callTy call_str_int (by rfl) T.b_str (by decide +kernel) (pa_cons (pe_fld (pv 0) rfl) pa_nil)) (pa_cons (pe_callTy call_str_int (by rfl) T.b_str (by decide +kernel) (pa_cons (pe_fld (pv 0) rfl) pa_nil)) (pa_cons (pe_fld (pv 0) rfl) pa_nil))))))))) pss_nil)
      (pss_one (ps_ret (pe_lst (pa_cons pe_str (pa_cons (pe_fld (pv 0) rfl) (pa_cons (pe_fld (pv 0) rfl) (pa_cons (pe_callTy call_str_int (by rfl) T.b_str (by decide +kernel) (pa_cons (pe_fld (pv 0) rfl) pa_nil)) (pa_cons (pe_callTy call_str_int (by rfl) T.b_str (by decide +kernel) (pa_cons (pe_fld (pv 0) rfl) pa_nil)) pa_nil))))))))), ?_⟩
    rcases h with ⟨⟨dx, ha⟩, rfl⟩ | ⟨⟨dx, ha⟩, rfl⟩
    · have c := tr_Run T
      refine ⟨_, rfl, _, _, _, _, _, rfl, .own _, c.ty ha, kit_self _, ?_⟩
      refine ⟨_, rfl, iteT ?_⟩
      refine ⟨_, rfl, _, _, _, _, _, rfl, ha, c.cl, c.n, trF_n d, ?_⟩
      refine ⟨_, rfl, _, _, _, _, _, rfl, ha, c.cl, c.s, trF_s d, ?_⟩
      refine ⟨_, rfl, _, _, _, _, _, rfl, ha, c.cl, c.l, trF_l d, d.l, rfl, b4, ?_⟩
      refine ⟨_, rfl, _, _, _, _, _, rfl, ha, c.cl, c.t, trF_t d, d.t, rfl, b5, ?_⟩
      refine ⟨_, rfl, _, _, _, _, _, rfl, ha, c.cl, c.g, trF_g d, (by show 6 ≤ sizeLine; decide), fun q nq => ?_⟩
      exact k q nq
    · have c := tr_Stay T
      refine ⟨_, rfl, _, _, _, _, _, rfl, .own _, c.ty ha, kit_ccF T.ic_Run T.ty_Run T.ss_Stay T.su_Stay_Run, ?_⟩
      refine ⟨_, rfl, iteF ?_⟩
      refine ⟨_, rfl, _, _, _, _, _, rfl, ha, c.cl, c.n, trF_n d, ?_⟩
      refine ⟨_, rfl, _, _, _, _, _, rfl, ha, c.cl, c.s, trF_s d, ?_⟩
      refine ⟨_, rfl, _, _, _, _, _, rfl, ha, c.cl, c.l, trF_l d, d.l, rfl, b4, ?_⟩
      refine ⟨_, rfl, _, _, _, _, _, rfl, ha, c.cl, c.t, trF_t d, d.t, rfl, b5, (by show 5 ≤ sizeLine; decide), fun q nq => ?_⟩
      exact k q nq
theorem c_Run___eq__ (T : Txt K mg ATrip APaused ARun AStay) : MetF P w K mg base 2 ARun "__eq__" ["self", "other"] (spEqR K ARun wordsR) := by
  have c_words_of := c_words_of (P := P) (w := w) (base := base) T
  refine T.m_Run___eq__.ok sc_Run___eq__ (fun vs H Q E h => ?_) (fun f cdv A outer s H vs Q E hr h => ?_)
  · obtain ⟨a, d, v, rfl, _⟩ := h
    rfl
  · obtain ⟨a, d, v, rfl, ok, ha, q⟩ := h
    refine ⟨_, (pss_one (ps_ret (pe_and (pe_callB call_isi (by rfl) T.b_isinstance (by decide +kernel) (pa_cons (pv 1) (pa_cons (pe_glob (v := .ref ARun) rfl T.C_Run.mgC rfl) pa_nil))) (pe_one (pe_cmpR (op_eqD hr.units) (pe_f c_words_of hr (pa_cons (pv 0) pa_nil)) (pe_f c_words_of hr (pa_cons (pv 1) pa_nil)) (nomark _)))))), ?_⟩
    rcases q with ⟨b, e, rfl, ok2, ⟨dy, hb⟩, q⟩ | ⟨t, ty, no, q⟩
    · refine ⟨_, rfl, _, _, _, _, _, rfl, .own _, (tr_Run T).ty hb, kit_self _, ?_⟩
      refine ⟨_, rfl, iteT ?_⟩
      refine ⟨_, rfl, a, d, _, rfl, ok, .inl ⟨ha, rfl⟩, fun q1 n1 => ?_⟩
      refine ⟨_, rfl, b, e, _, rfl, ok2, .inl ⟨⟨dy, Same.new1 n1 _ _ hb⟩, rfl⟩, fun q2 n2 => ?_⟩
      refine ⟨_, _, .lst (SqL.of ((upd_ne (ne_of_none upd_same n2)).trans upd_same)) (dp_strs _), .lst (SqL.of upd_same) (dp_strs _), wordsR_shp ok, wordsR_shp ok2, ?_⟩
      rw [show PyData.eqv (.list ((wordsR d).map PyData.str)) (.list ((wordsR e).map PyData.str)) = decide (wordsR d = wordsR e) from eqv_strs _ _]
      exact q _ ((Same.new1 n1).trans (Same.new1 n2))
    · refine ⟨_, rfl, _, _, _, _, _, rfl, .own _, ty, no, ?_⟩
      exact ⟨_, rfl, iteF q⟩
theorem c_Run___str__ (T : Txt K mg ATrip APaused ARun AStay) : MetF P w K mg base 2 ARun "__str__" ["self"] (spStrR ARun wordsR) := by
  have c_words_of := c_words_of (P := P) (w := w) (base := base) T
  refine T.m_Run___str__.ok sc_Run___str__ (fun vs H Q E h => ?_) (fun f cdv A outer s H vs Q E hr h => ?_)
  · obtain ⟨a, d, rfl, _⟩ := h
    rfl
  · obtain ⟨a, d, rfl, ok, ha, q⟩ := h
    refine ⟨_, (pss_one (ps_ret (pe_join pe_str (pe_f c_words_of hr (pa_cons (pv 0) pa_nil))))), ?_⟩
    refine ⟨⟨_, rfl⟩, _, rfl, a, d, _, rfl, ok, .inl ⟨ha, rfl⟩, fun q1 n1 => ?_⟩
    exact ⟨_, q1, _, rfl, rfl, .inl (SqL.of upd_same), wordsR_len ok, q _ (Same.new1 n1)⟩
theorem c_Stay___eq__ (T : Txt K mg ATrip APaused ARun AStay) : MetF P w K mg base 2 AStay "__eq__" ["self", "other"] (spEqR K AStay wordsS) := by
  have c_words_of := c_words_of (P := P) (w := w) (base := base) T
  refine T.m_Stay___eq__.ok sc_Stay___eq__ (fun vs H Q E h => ?_) (fun f cdv A outer s H vs Q E hr h => ?_)
  · obtain ⟨a, d, v, rfl, _⟩ := h
    rfl
  · obtain ⟨a, d, v, rfl, ok, ha, q⟩ := h
    refine ⟨_, (pss_one (ps_ret (pe_and (pe_callB call_isi (by rfl) T.b_isinstance (by decide +kernel) (pa_cons (pv 1) (pa_cons (pe_glob (v := .ref AStay) rfl T.C_Stay.mgC rfl) pa_nil))) (pe_one (pe_cmpR (op_eqD hr.units) (pe_f c_words_of hr (pa_cons (pv 0) pa_nil)) (pe_f c_words_of hr (pa_cons (pv 1) pa_nil)) (nomark _)))))), ?_⟩
    rcases q with ⟨b, e, rfl, ok2, ⟨dy, hb⟩, q⟩ | ⟨t, ty, no, q⟩
    · refine ⟨_, rfl, _, _, _, _, _, rfl, .own _, (tr_Stay T).ty hb, kit_self _, ?_⟩
      refine ⟨_, rfl, iteT ?_⟩
      refine ⟨_, rfl, a, d, _, rfl, ok, .inr ⟨ha, rfl⟩, fun q1 n1 => ?_⟩
      refine ⟨_, rfl, b, e, _, rfl, ok2, .inr ⟨⟨dy, Same.new1 n1 _ _ hb⟩, rfl⟩, fun q2 n2 => ?_⟩
      refine ⟨_, _, .lst (SqL.of ((upd_ne (ne_of_none upd_same n2)).trans upd_same)) (dp_strs _), .lst (SqL.of upd_same) (dp_strs _), wordsS_shp ok, wordsS_shp ok2, ?_⟩
      rw [show PyData.eqv (.list ((wordsS d).map PyData.str)) (.list ((wordsS e).map PyData.str)) = decide (wordsS d = wordsS e) from eqv_strs _ _]
      exact q _ ((Same.new1 n1).trans (Same.new1 n2))
    · refine ⟨_, rfl, _, _, _, _, _, rfl, .own _, ty, no, ?_⟩
      exact ⟨_, rfl, iteF q⟩
theorem c_Stay___str__ (T : Txt K mg ATrip APaused ARun AStay) : MetF P w K mg base 2 AStay "__str__" ["self"] (spStrR AStay wordsS) := by
  have c_words_of := c_words_of (P := P) (w := w) (base := base) T
  refine T.m_Stay___str__.ok sc_Stay___str__ (fun vs H Q E h => ?_) (fun f cdv A outer s H vs Q E hr h => ?_)
  · obtain ⟨a, d, rfl, _⟩ := h
    rfl
  · obtain ⟨a, d, rfl, ok, ha, q⟩ := h
    refine ⟨_, (pss_one (ps_ret (pe_join pe_str (pe_f c_words_of hr (pa_cons (pv 0) pa_nil))))), ?_⟩
    refine ⟨⟨_, rfl⟩, _, rfl, a, d, _, rfl, ok, .inr ⟨ha, rfl⟩, fun q1 n1 => ?_⟩
    exact ⟨_, q1, _, rfl, rfl, .inl (SqL.of upd_same), wordsS_len ok, q _ (Same.new1 n1)⟩
end

theorem Pn.upd {p l q : Addr} {ns : List Int} {b : Int} {H : Hp} {o : HO} (h : Pn p l ns b H) (n1 : q ≠ p) (n2 : q ≠ l) : Pn p l ns b (L2.upd H q o) := by
  obtain ⟨s, t, h1, h2, r⟩ := h
  exact ⟨s, t, by rw [upd_ne (Ne.symm n1)]; exact h1, by rw [upd_ne (Ne.symm n2)]; exact h2, r⟩
theorem Pn.atl {p l : Addr} {ns : List Int} {b : Int} {H : Hp} (h : Pn p l ns b H) : ∃ o, H l = some o := let ⟨s, t, _, h2, _⟩ := h; ⟨_, h2⟩
theorem But.updNew {p q : Addr} {H H' : Hp} {o : HO} (h : But p H H') (n : H q = none) : But p H (L2.upd H' q o) := fun c u e ne => by rw [upd_ne (ne_of_none e n)]; exact h c u e ne
def spTitle : Sp := fun vs H Q _ => ∃ p l ns b, vs = [.ref p] ∧ Pn p l ns b H ∧ b ≤ 999900 ∧ ∀ z H', z ∈ names13 → Pn p l ns (b + 1) H' → But p H H' → Q (.str z) H'
def spNumber : Sp := fun vs H Q _ => ∃ p l ns b least, vs = [.ref p, .int least] ∧ Pn p l ns b H ∧ b ≤ 999900 ∧ (0 ≤ least ∧ least ≤ 1) ∧ ∀ n H', (least ≤ n ∧ n ≤ 1000000000000) → Pn p l ns (b + 3) H' → But p H H' → Q (.int n) H'
def spKinds (A B : Addr) : Sp := fun vs H Q _ => ∃ a d bs, vs = [.ref a] ∧ ((TrAt A H a d ∧ bs = [true, true, true, false]) ∨ (TrAt B H a d ∧ bs = [true, false, false, true])) ∧ ∀ q, H q = none → Q (.ref q) (upd H q (.lst (bs.map V.bl)))
def spParts (A B : Addr) : Sp := fun vs H Q _ => ∃ a d, vs = [.ref a] ∧ d.ok ∧ (TrAt A H a d ∨ TrAt B H a d) ∧ ∀ H', Same H H' → Q (.str (PyData.shown (.list (tdP d)))) H'
section
variable {P : Program} {w : World} {K : PySem.W.Frag} {mg : Str → Option Value} {base : Heap} {ATrip APaused ARun AStay : Addr}
theorem c_law_title (T : Txt K mg ATrip APaused ARun AStay) : CalF P w K mg base 3 "_law_title" ["pen"] spTitle := by
  have c_law_pick := c_law_pick (P := P) (w := w) (base := base) T
  refine T.d_law_title.ok sc_law_title (fun vs H Q E h => ?_) (fun f cdv A outer s H vs Q E hr h => ?_)
  · obtain ⟨p, l, ns, b, rfl, _⟩ := h
    rfl
  · obtain ⟨p, l, ns, b, rfl, hP, hb, k⟩ := h
    refine ⟨_, (pss_cons (ps_set (i := 1) sc_law_title.nd rfl (Or.inl rfl) (pe_lst (pa_cons pe_str (pa_cons pe_str (pa_cons pe_str (pa_cons pe_str (pa_cons pe_str (pa_cons pe_str (pa_cons pe_str (pa_cons pe_str (pa_cons pe_str (pa_cons pe_str (pa_cons pe_str (pa_cons pe_str (pa_cons pe_str pa_nil)))))))))))))))
      (pss_one (ps_ret (pe_f c_law_pick hr (pa_cons (pv 0) (pa_cons (pv 1) pa_nil)))))), ?_⟩
    refine ⟨(by show 13 ≤ sizeLine; decide), fun q nq => ?_⟩
    obtain ⟨op, hop⟩ := hP.at_
    refine ⟨_, rfl, _, rfl, p, l, ns, b, q, names13.map V.str, rfl, hP.same (Same.new1 nq), by omega, SqL.of upd_same, (ne_of_none hop nq).symm, ⟨by simp [names13], by simp [names13]⟩, fun v H' hv hP' hB => ?_⟩
    obtain ⟨z, hz, rfl⟩ := List.mem_map.mp hv
    exact k z H' hz hP' ((But.new nq).trans hB)
theorem c_law_number (T : Txt K mg ATrip APaused ARun AStay) : CalF P w K mg base 3 "_law_number" ["pen", "least"] spNumber := by
  have c_law_pick := c_law_pick (P := P) (w := w) (base := base) T
  have c_law_draw := c_law_draw (P := P) (w := w) (base := base) T
  refine T.d_law_number.ok sc_law_number (fun vs H Q E h => ?_) (fun f cdv A outer s H vs Q E hr h => ?_)
  · obtain ⟨p, l, ns, b, least, rfl, _⟩ := h
    rfl
  · obtain ⟨p, l, ns, b, least, rfl, hP, hb, hl, k⟩ := h
    refine ⟨_, (pss_one (ps_ret (pe_callB (call_max2 rfl) (by rfl) T.b_max (by decide +kernel) (pa_cons (pe_callTy call_int1 (by rfl) T.b_int (by decide +kernel) (pa_cons (pv 1) pa_nil)) (pa_cons (pe_f c_law_pick hr (pa_cons (pv 0) (pa_cons (pe_lst (pa_cons pe_int (pa_cons pe_int (pa_cons pe_int (pa_cons (pe_f c_law_draw hr (pa_cons (pv 0) (pa_cons pe_int pa_nil))) (pa_cons pe_int (pa_cons (pe_op op_pow pe_int pe_int) (pa_cons (pe_op op_sub (pe_op op_pow pe_int pe_int) (pe_f c_law_draw hr (pa_cons (pv 0) (pa_cons pe_int pa_nil)))) pa_nil)))))))) pa_nil))) pa_nil))))), ?_⟩
    refine ⟨_, rfl, .inl ⟨_, rfl, ?_⟩⟩
    refine ⟨_, rfl, _, rfl, p, l, ns, b, _, rfl, hP, by omega, ⟨by decide, by decide⟩, fun n1 H1 hn1 hP1 hB1 => ?_⟩
    refine ⟨_, _, rfl, rfl, ⟨by decide, by decide, by decide⟩, _, _, rfl, rfl, ⟨by decide, by decide, by decide⟩, _, rfl, p, l, ns, _, _, rfl, hP1, by omega, ⟨by decide, by decide⟩, fun n2 H2 hn2 hP2 hB2 => ?_⟩
    refine ⟨_, _, rfl, rfl, (by show 7 ≤ sizeLine; decide), fun q nq => ?_⟩
    obtain ⟨op, hop⟩ := hP2.at_
    refine ⟨p, l, ns, _, q, _, rfl, hP2.same (Same.new1 nq), by omega, SqL.of upd_same, (ne_of_none hop nq).symm, ⟨by simp, by simp⟩, fun v H3 hv hP3 hB3 => ?_⟩
    have e12 : (10 : Int) ^ Int.toNat 12 = 1000000000000 := by decide
    obtain ⟨z, rfl, hz⟩ : ∃ z, v = V.int z ∧ (0 ≤ z ∧ z ≤ 1000000000000) := by
      simp only [List.mem_cons, List.not_mem_nil, or_false] at hv
      rw [e12] at hv
      rcases hv with rfl | rfl | rfl | rfl | rfl | rfl | rfl <;> exact ⟨_, rfl, by omega, by omega⟩
    refine ⟨_, _, rfl, k _ _ ?_ (hP3.mono (by omega)) (((hB1.trans hB2).trans (But.new nq)).trans hB3)⟩
    split <;> omega
theorem c_law_kinds (T : Txt K mg ATrip APaused ARun AStay) : CalF P w K mg base 1 "_law_kinds" ["made"] (spKinds ARun AStay) := by
  refine T.d_law_kinds.ok sc_law_kinds (fun vs H Q E h => ?_) (fun f cdv A outer s H vs Q E hr h => ?_)
  · obtain ⟨a, d, bs, rfl, _⟩ := h
    rfl
  · obtain ⟨a, d, bs, rfl, h, k⟩ := h
    refine ⟨_, (pss_one (ps_ret (pe_lst (pa_cons (pe_callB call_isi (by rfl) T.b_isinstance (by decide +kernel) (pa_cons (pv 0) (pa_cons (pe_glob (v := .ref ATrip) rfl T.C_Trip.mgC rfl) pa_nil))) (pa_cons (pe_callB call_isi (by rfl) T.b_isinstance (by decide +kernel) (pa_cons (pv 0) (pa_cons (pe_glob (v := .ref APaused) rfl T.C_Paused.mgC rfl) pa_nil))) (pa_cons (pe_callB call_isi (by rfl) T.b_isinstance (by decide +kernel) (pa_cons (pv 0) (pa_cons (pe_glob (v := .ref ARun) rfl T.C_Run.mgC rfl) pa_nil))) (pa_cons (pe_callB call_isi (by rfl) T.b_isinstance (by decide +kernel) (pa_cons (pv 0) (pa_cons (pe_glob (v := .ref AStay) rfl T.C_Stay.mgC rfl) pa_nil))) pa_nil))))))), ?_⟩
    rcases h with ⟨⟨dx, ha⟩, rfl⟩ | ⟨⟨dx, ha⟩, rfl⟩
    · have c := (tr_Run T).ty ha
      refine ⟨_, rfl, _, _, _, _, _, rfl, .own _, c, kit_ccT T.ic_Trip T.ty_Trip T.su_Run_Trip, ?_⟩
      refine ⟨_, rfl, _, _, _, _, _, rfl, .own _, c, kit_ccT T.ic_Paused T.ty_Paused T.su_Run_Paused, ?_⟩
      refine ⟨_, rfl, _, _, _, _, _, rfl, .own _, c, kit_self _, ?_⟩
      refine ⟨_, rfl, _, _, _, _, _, rfl, .own _, c, kit_ccF T.ic_Stay T.ty_Stay T.ss_Run T.su_Run_Stay, ?_⟩
      exact ⟨(by show 4 ≤ sizeLine; decide), fun q nq => k q nq⟩
    · have c := (tr_Stay T).ty ha
      refine ⟨_, rfl, _, _, _, _, _, rfl, .own _, c, kit_ccT T.ic_Trip T.ty_Trip T.su_Stay_Trip, ?_⟩
      refine ⟨_, rfl, _, _, _, _, _, rfl, .own _, c, kit_ccF T.ic_Paused T.ty_Paused T.ss_Stay T.su_Stay_Paused, ?_⟩
      refine ⟨_, rfl, _, _, _, _, _, rfl, .own _, c, kit_ccF T.ic_Run T.ty_Run T.ss_Stay T.su_Stay_Run, ?_⟩
      refine ⟨_, rfl, _, _, _, _, _, rfl, .own _, c, kit_self _, ?_⟩
      exact ⟨(by show 4 ≤ sizeLine; decide), fun q nq => k q nq⟩
theorem dp_tdV {H : Hp} (d : TD) : DpAll K H (tdV d) (tdP d) := .cons (.str _) (.cons (.str _) (.cons (.int _) (.cons (.int _) (.cons (.str _) .nil))))
theorem dp_tdV4 {H : Hp} (d : TD) : DpAll K H (tdV4 d) (tdP4 d) := .cons (.str _) (.cons (.str _) (.cons (.int _) (.cons (.int _) .nil)))
theorem c_law_parts (T : Txt K mg ATrip APaused ARun AStay) : CalF P w K mg base 1 "_law_parts" ["made"] (spParts ARun AStay) := by
  refine T.d_law_parts.ok sc_law_parts (fun vs H Q E h => ?_) (fun f cdv A outer s H vs Q E hr h => ?_)
  · obtain ⟨a, d, rfl, _⟩ := h
    rfl
  · obtain ⟨a, d, rfl, ok, h, k⟩ := h
    refine ⟨_, (pss_one (ps_ret (pe_callB (call_reprD hr) (by rfl) T.b_repr (by decide +kernel) (pa_cons (pe_lst (pa_cons (pe_fld (pv 0) rfl) (pa_cons (pe_fld (pv 0) rfl) (pa_cons (pe_fld (pv 0) rfl) (pa_cons (pe_fld (pv 0) rfl) (pa_cons (pe_fld (pv 0) rfl) pa_nil)))))) pa_nil)))), ?_⟩
    obtain ⟨C, c, dx, ha⟩ : ∃ C, TrC K C ∧ TrAt C H a d := by
      rcases h with h | h
      · exact ⟨_, tr_Run T, h⟩
      · exact ⟨_, tr_Stay T, h⟩
    refine ⟨_, rfl, _, _, _, _, _, rfl, ha, c.cl, c.n, trF_n d, ?_⟩
    refine ⟨_, rfl, _, _, _, _, _, rfl, ha, c.cl, c.s, trF_s d, ?_⟩
    refine ⟨_, rfl, _, _, _, _, _, rfl, ha, c.cl, c.l, trF_l d, ?_⟩
    refine ⟨_, rfl, _, _, _, _, _, rfl, ha, c.cl, c.t, trF_t d, ?_⟩
    refine ⟨_, rfl, _, _, _, _, _, rfl, ha, c.cl, c.g, trF_g d, (by show 5 ≤ sizeLine; decide), fun q nq => ?_⟩
    exact ⟨q, _, rfl, .lst (SqL.of upd_same) (dp_tdV d), TD.shw ok, k _ (Same.new1 nq)⟩
def spRunRight : Sp := fun vs H Q _ => ∃ p l ns b pp d, vs = [.ref p, .ref pp] ∧ Pn p l ns b H ∧ b ≤ 999800 ∧ H pp = some (.lst (tdV d)) ∧ pp ≠ p ∧ d.ok ∧ ∀ H', Pn p l ns (b + 15) H' → But p H H' → Q (.bl true) H'
theorem KB_Run : KwB "__init__" "Run.__init__" s_Run___init__ ["self", "name", "start", "leaves", "takes", "goal"] ["goal", "takes", "leaves", "start", "name"] 5 (fun ws => match ws with | [g, t, l, s, n] => [n, s, l, t, g] | l => l) :=
  ⟨fun _ _ _ _ _ _ u ws h => match ws, h with | [_, _, _, _, _], _ => rfl, fun {zs ws} r h => by
    match zs, ws, r, h with
    | [_, _, _, _, _], _, .cons r1 (.cons r2 (.cons r3 (.cons r4 (.cons r5 .nil)))), _ => exact .cons r5 (.cons r4 (.cons r3 (.cons r2 (.cons r1 .nil))))⟩
theorem KB_Stay : KwB "__init__" "Stay.__init__" s_Stay___init__ ["self", "name", "place", "leaves", "takes"] ["takes", "leaves", "place", "name"] 4 (fun ws => match ws with | [t, l, s, n] => [n, s, l, t] | l => l) :=
  ⟨fun _ _ _ _ _ _ u ws h => match ws, h with | [_, _, _, _], _ => rfl, fun {zs ws} r h => by
    match zs, ws, r, h with
    | [_, _, _, _], _, .cons r1 (.cons r2 (.cons r3 (.cons r4 .nil))), _ => exact .cons r4 (.cons r3 (.cons r2 (.cons r1 .nil)))⟩
theorem c_law_run_right (T : Txt K mg ATrip APaused ARun AStay) : CalF P w K mg base 6 "_law_run_right" ["pen", "parts"] spRunRight := by
  have c_law_title := c_law_title (P := P) (w := w) (base := base) T
  have c_law_number := c_law_number (P := P) (w := w) (base := base) T
  have c_law_parts := c_law_parts (P := P) (w := w) (base := base) T
  have c_law_kinds := c_law_kinds (P := P) (w := w) (base := base) T
  have n_Run := n_Run (P := P) (w := w) (base := base) T
  have n_Stay := n_Stay (P := P) (w := w) (base := base) T
  have c_Run___eq__ := c_Run___eq__ (P := P) (w := w) (base := base) T
  have c_Run___str__ := c_Run___str__ (P := P) (w := w) (base := base) T
  refine T.d_law_run_right.ok sc_law_run_right (fun vs H Q E h => ?_) (fun f cdv A outer s H vs Q E hr h => ?_)
  · obtain ⟨p, l, ns, b, pp, d, rfl, _⟩ := h
    rfl
  · obtain ⟨p, l, ns, b, pp, d, rfl, hP, hb, hpp, npp, ok, k⟩ := h
    refine ⟨_, (pss_cons (ps_asg (pv 1) (pg_unl rfl (pgs_cons (pg_name (i := 2) sc_law_run_right.nd rfl (Or.inl rfl)) (pgs_cons (pg_name (i := 3) sc_law_run_right.nd rfl (Or.inl rfl)) (pgs_cons (pg_name (i := 4) sc_law_run_right.nd rfl (Or.inl rfl)) (pgs_cons (pg_name (i := 5) sc_law_run_right.nd rfl (Or.inl rfl)) (pgs_cons (pg_name (i := 6) sc_law_run_right.nd rfl (Or.inl rfl)) pgs_nil)))))))
      (pss_cons (ps_set (i := 7) sc_law_run_right.nd rfl (Or.inr rfl) (pe_w n_Run hr (pa_cons (pv 2) (pa_cons (pv 3) (pa_cons (pv 4) (pa_cons (pv 5) (pa_cons (pv 6) pa_nil)))))))
      (pss_cons (ps_if (PW.pt (pw_or (pt_cmpR op_ne (pe_f c_law_parts hr (pa_cons (pv 7) pa_nil)) (pe_callB (call_reprD hr) (by rfl) T.b_repr (by decide +kernel) (pa_cons (pv 1) pa_nil)) (nomark _)) (pw_or1 (pt_cmpR (op_neD hr.units) (pe_f c_law_kinds hr (pa_cons (pv 7) pa_nil)) (pe_lst (pa_cons pe_bl (pa_cons pe_bl (pa_cons pe_bl (pa_cons pe_bl pa_nil))))) (nomark _))))) (pss_one (ps_ret pe_bl)) pss_nil)
      (pss_cons (ps_if (pt_cmpR op_ne (pe_callTy (call_strOwn c_Run___str__ hr) (by rfl) T.b_str (by decide +kernel) (pa_cons (pv 7) pa_nil)) (pe_join pe_str (pe_lst (pa_cons pe_str (pa_cons (pv 2) (pa_cons (pv 3) (pa_cons (pe_callTy call_str_int (by rfl) T.b_str (by decide +kernel) (pa_cons (pv 4) pa_nil)) (pa_cons (pe_callTy call_str_int (by rfl) T.b_str (by decide +kernel) (pa_cons (pv 5) pa_nil)) (pa_cons (pv 6) pa_nil)))))))) (nomark _)) (pss_one (ps_ret pe_bl)) pss_nil)
      (pss_cons (ps_set (i := 8) sc_law_run_right.nd rfl (Or.inl rfl) (pe_wk n_Run T.m_Run___init__ KB_Run hr (pk_cons (pv 6) (pk_cons (pv 5) (pk_cons (pv 4) (pk_cons (pv 3) (pk_cons (pv 2) pk_nil)))))))
      (pss_cons (ps_if (PW.pt (pw_or (pt_cmpR (ow_ne c_Run___eq__ hr T.ne_Run T.ob_Run) (pv 7) (pv 8) (nomark _)) (pw_or1 (pt_not (pt_cmpR (ow_eq c_Run___eq__ hr) (pv 7) (pv 8) (nomark _)))))) (pss_one (ps_ret pe_bl)) pss_nil)
      (pss_cons (ps_for PassesOwn.never rfl (pi_range1 rfl T.b_range (pa_cons pe_int pa_nil)) (pg_name (i := 9) sc_law_run_right.nd rfl (Or.inl rfl)) (pss_cons (ps_set (i := 10) sc_law_run_right.nd rfl (Or.inl rfl) (pe_callTy call_list_of (by rfl) T.b_list (by decide +kernel) (pa_cons (pv 1) pa_nil)))
      (C8.pss_cut (ps_asg (pe_ifExp (pt_cmpR op_in_seq (pv 9) (pe_tup (pa_cons pe_int (pa_cons pe_int (pa_cons pe_int pa_nil)))) (by rfl)) (pe_f c_law_title hr (pa_cons (pv 0) pa_nil)) (pe_f c_law_number hr (pa_cons (pv 0) (pa_cons pe_int pa_nil)))) (pg_sub (pv 10) (pv 9) set_list))
      (pss_cons (ps_set (i := 11) sc_law_run_right.nd rfl (Or.inl rfl) (pe_w n_Run hr (pa_cons (pe_ix ix_list (pv 10) pe_int (fun _ _ => rfl)) (pa_cons (pe_ix ix_list (pv 10) pe_int (fun _ _ => rfl)) (pa_cons (pe_ix ix_list (pv 10) pe_int (fun _ _ => rfl)) (pa_cons (pe_ix ix_list (pv 10) pe_int (fun _ _ => rfl)) (pa_cons (pe_ix ix_list (pv 10) pe_int (fun _ _ => rfl)) pa_nil)))))))
      (pss_one (ps_if (PW.pt (pw_or (pt_cmpR op_ne (pe_cmpR (ow_eq c_Run___eq__ hr) (pv 7) (pv 11) (nomark _)) (pe_cmpR (op_eqD hr.units) (pv 10) (pv 1) (nomark _)) (nomark _)) (pw_or1 (pt_cmpR op_eq (pe_cmpR (ow_ne c_Run___eq__ hr T.ne_Run T.ob_Run) (pv 7) (pv 11) (nomark _)) (pe_cmpR (op_eqD hr.units) (pv 10) (pv 1) (nomark _)) (nomark _))))) (pss_one (ps_ret pe_bl)) pss_nil))))))
      (pss_cons (ps_set (i := 12) sc_law_run_right.nd rfl (Or.inl rfl) (pe_lst (pa_cons pe_non (pa_cons pe_int (pa_cons (pe_callTy (call_strOwn c_Run___str__ hr) (by rfl) T.b_str (by decide +kernel) (pa_cons (pv 7) pa_nil)) (pa_cons (pe_callTy call_tuple_of (by rfl) T.b_tuple (by decide +kernel) (pa_cons (pv 1) pa_nil)) (pa_cons (pv 1) (pa_cons (pe_w n_Stay hr (pa_cons (pv 2) (pa_cons (pv 3) (pa_cons (pv 4) (pa_cons (pv 5) pa_nil))))) pa_nil))))))))
      (pss_one (ps_ret (pe_cmpR (op_eqD hr.units) (pe_lc (own := [("odd", 13)]) rfl sc_law_run_right.nd (pi_list (pv 12)) (blkOk_by (N := ["pen", "parts", "title", "home", "when", "span", "target", "made", "twin", "at", "bent", "other", "others", "odd"]) (sc := defScope s_law_run_right) (by decide +kernel)) (fun _ _ _ _ _ => (pg_name (i := 13) sc_law_run_right.nd rfl (Or.inl rfl))) (fun _ _ _ _ _ => (pts_one (pt_cmpR (ow_eqW c_Run___eq__ hr) (pv 7) (pv 13) (nomark _)))) (fun _ _ _ _ _ => (pv 13))) (pe_lst pa_nil) (nomark _)))))))))))), ?_⟩
    refine ⟨_, rfl, pp, _, rfl, SqL.of hpp, rfl, _, _, rfl, _, _, rfl, _, _, rfl, _, _, rfl, _, _, rfl, rfl, ?_⟩
    have b4 := int_log2 (num_small ok.2.2.2.1)
    have b5 := int_log2 (num_small (i := d.t) ⟨by have := ok.2.2.2.2; omega, by have := ok.2.2.2.2; omega⟩)
    obtain ⟨op, hop⟩ := hP.at_
    refine ⟨_, rfl, _, rfl, _, rfl, _, rfl, _, rfl, d, rfl, ok, fun m H1 nm1 s1 hM => ?_⟩
    have nmp : m ≠ p := (ne_of_none hop nm1).symm
    have hP1 := hP.same s1
    have hpp1 := s1 _ _ hpp
    refine ⟨_, rfl, m, d, rfl, ok, .inl hM, fun H2 s2 => ?_⟩
    have hpp2 := s2 _ _ hpp1
    have hM2 := hM.same s2
    refine ⟨_, rfl, pp, _, rfl, .lst (SqL.of hpp2) (dp_tdV d), TD.shw ok, rfl, _, rfl, iteNF (by simp) ?_⟩
    refine ⟨_, rfl, m, d, _, rfl, .inl ⟨hM2, rfl⟩, fun q1 nq1 => ?_⟩
    refine ⟨(by show 4 ≤ sizeLine; decide), fun q2 nq2 => ?_⟩
    refine ⟨.list [.bool true, .bool true, .bool true, .bool false], .list [.bool true, .bool true, .bool true, .bool false], .lst (SqL.of ((upd_ne (ne_of_none upd_same nq2)).trans upd_same)) (.cons (.bl _) (.cons (.bl _) (.cons (.bl _) (.cons (.bl _) .nil)))), .lst (SqL.of upd_same) (.cons (.bl _) (.cons (.bl _) (.cons (.bl _) (.cons (.bl _) .nil)))), by decide, by decide, _, rfl, iteNF (by decide) ?_⟩
    have s3 := s2.trans ((Same.new1 (o := .lst ([true, true, true, false].map V.bl)) nq1).trans (Same.new1 (o := .lst [.bl true, .bl true, .bl true, .bl false]) nq2))
    have hM3 := hM.same s3
    obtain ⟨dx3, hm3⟩ := id hM3
    refine ⟨_, rfl, m, dx3, _, rfl, hm3, m, d, rfl, ok, hM3, fun H4 s4 => ⟨_, rfl, ?_⟩⟩
    refine ⟨⟨_, rfl⟩, _, rfl, _, rfl, _, rfl, d.l, rfl, b4, _, rfl, d.t, rfl, b5, _, rfl, (by show 6 ≤ sizeLine; decide), fun q3 nq3 => ?_⟩
    refine ⟨_, q3, wordsR d, rfl, rfl, .inl (SqL.of upd_same), wordsR_len ok, rfl, _, rfl, iteNF (by simp) ?_⟩
    have hM4 := (hM3.same s4).same (Same.new1 (o := .lst ((wordsR d).map V.str)) nq3)
    -- twin
    refine ⟨_, rfl, _, rfl, _, rfl, _, rfl, _, rfl, rfl, d, rfl, ok, fun t H5 nt s5 hT => ?_⟩
    have hM5 := hM4.same s5
    obtain ⟨dx5, hm5⟩ := id hM5
    obtain ⟨dt5, ht5⟩ := id hT
    refine ⟨_, rfl, _, rfl, m, t, dx5, dt5, _, _, rfl, rfl, hm5, ht5, m, d, _, rfl, ok, hM5, .inl ⟨t, d, rfl, ok, hT, fun H6 s6 => ⟨_, rfl, _, rfl, iteNF (by simp) ?_⟩⟩⟩
    have hM6 := hM5.same s6
    have hT6 := hT.same s6
    obtain ⟨dx6, hm6⟩ := id hM6
    obtain ⟨dt6, ht6⟩ := id hT6
    refine ⟨_, rfl, _, rfl, m, t, dx6, dt6, _, _, rfl, rfl, hm6, ht6, m, d, _, rfl, ok, hM6, .inl ⟨t, d, rfl, ok, hT6, fun H7 s7 => ⟨_, rfl, iteNF (by simp) ?_⟩⟩⟩
    have sa : Same H H7 := s1.trans (s3.trans (s4.trans ((Same.new1 (o := .lst ((wordsR d).map V.str)) nq3).trans (s5.trans (s6.trans s7)))))
    have hM7 := hM6.same s7
    have hP7 := hP.same sa
    have hpp7 := sa _ _ hpp
    -- the loop
    refine ⟨5, rfl, by decide, by decide, for_range (n := 5) (fun i σ H' => ∃ x y z : Option V, σ = [some (.ref p), some (.ref pp), some (.str d.n), some (.str d.s), some (.int d.l), some (.int d.t), some (.str d.g), some (.ref m), some (.ref t), x, y, z, none, none] ∧ Pn p l ns (b + 3 * i) H' ∧ But p H7 H') ⟨_, _, _, rfl, hP7.mono (by omega), But.rfl'⟩ ?_ ?_⟩
    · rintro i σ H8 hi ⟨x0, y0, z0, rfl, hP8, hB8⟩
      have hpp8 := hB8 _ _ hpp7 npp
      have hM8 := hM7.but hB8 nmp
      refine ⟨_, rfl, pp, _, rfl, .inl (SqL.of hpp8), fun bb nbb => ?_⟩
      obtain ⟨op8, hop8⟩ := hP8.at_
      have nbp : bb ≠ p := (ne_of_none hop8 nbb).symm
      obtain ⟨ol8, hol8⟩ := hP8.atl
      have nbl : bb ≠ l := (ne_of_none hol8 nbb).symm
      have hP9 := hP8.same (Same.new1 (o := .lst (tdV d)) nbb)
      refine ⟨fun σ Hb => ∃ (e : TD), σ = [some (.ref p), some (.ref pp), some (.str d.n), some (.str d.s), some (.int d.l), some (.int d.t), some (.str d.g), some (.ref m), some (.ref t), some (.int (0 + (i : Int))), some (.ref bb), z0, none, none] ∧ Hb bb = some (.lst (tdV e)) ∧ e.ok ∧ Pn p l ns (b + 3 * i + 3) Hb ∧ But p H8 Hb, ?_, ?_⟩
      · refine ⟨_, rfl, (by show 3 ≤ sizeLine; decide), fun tp ntp => ⟨tp, _, rfl, .inr (SqT.of upd_same), rfl, rfl, _, rfl, ?_⟩⟩
        have hPa := hP9.same (Same.new1 (o := .tup [.int 0, .int 1, .int 4]) ntp)
        have hba : upd (upd H8 bb (.lst (tdV d))) tp (.tup [.int 0, .int 1, .int 4]) bb = some (.lst (tdV d)) := (upd_ne (ne_of_none upd_same ntp)).trans upd_same
        have hBa : But p H8 (upd (upd H8 bb (.lst (tdV d))) tp (.tup [.int 0, .int 1, .int 4])) := (But.new nbb).trans (But.new ntp)
        refine ite2 (fun c => ?_) (fun c => ?_)
        · have c : inV (.int (0 + (i : Int))) [.int 0, .int 1, .int 4] = true := c
          rw [in014, decide_eq_true_eq] at c
          refine ⟨_, rfl, p, l, ns, _, rfl, hPa, by omega, fun z H9 hz hP10 hB10 => ?_⟩
          obtain ⟨e, he, oke⟩ := tdV_setS (i := i) ok (names_nm z hz) (by omega)
          refine ⟨_, rfl, _, rfl, bb, tdV d, _, i, rfl, rfl, hB10 _ _ hba nbp, ixN_i (by show i < 5; omega), ?_⟩
          refine ⟨e, rfl, by rw [upd_same, he], oke, ?_, ?_⟩
          · exact (hP10.upd nbp nbl).mono (by omega)
          · exact But.updNew (hBa.trans hB10) nbb
        · have c : ¬ inV (.int (0 + (i : Int))) [.int 0, .int 1, .int 4] = true := c
          rw [in014, decide_eq_true_eq] at c
          refine ⟨_, rfl, p, l, ns, _, 1, rfl, hPa, by omega, ⟨by decide, by decide⟩, fun z H9 hz hP10 hB10 => ?_⟩
          obtain ⟨e, he, oke⟩ := tdV_setI (i := i) ok hz (by omega)
          refine ⟨_, rfl, _, rfl, bb, tdV d, _, i, rfl, rfl, hB10 _ _ hba nbp, ixN_i (by show i < 5; omega), ?_⟩
          refine ⟨e, rfl, by rw [upd_same, he], oke, ?_, ?_⟩
          · exact (hP10.upd nbp nbl).mono (by omega)
          · exact But.updNew (hBa.trans hB10) nbb
      · rintro σ Hb ⟨e, rfl, hbb, oke, hPb, hBb⟩
        have hppb := hBb _ _ hpp8 npp
        have hMb := hM8.but hBb nmp
        refine ⟨_, rfl, bb, _, 0, _, rfl, rfl, SqL.of hbb, rfl, ?_⟩
        refine ⟨_, rfl, bb, _, 1, _, rfl, rfl, SqL.of hbb, rfl, ?_⟩
        refine ⟨_, rfl, bb, _, 2, _, rfl, rfl, SqL.of hbb, rfl, ?_⟩
        refine ⟨_, rfl, bb, _, 3, _, rfl, rfl, SqL.of hbb, rfl, ?_⟩
        refine ⟨_, rfl, bb, _, 4, _, rfl, rfl, SqL.of hbb, rfl, ?_⟩
        refine ⟨e, rfl, oke, fun o Hc no sc hO => ?_⟩
        have hMc := hMb.same sc
        have hppc := sc _ _ hppb
        have hbbc := sc _ _ hbb
        obtain ⟨dxc, hmc⟩ := id hMc
        obtain ⟨doc, hoc⟩ := id hO
        refine ⟨_, rfl, _, rfl, m, o, dxc, doc, _, _, rfl, rfl, hmc, hoc, m, d, _, rfl, ok, hMc, .inl ⟨o, e, rfl, oke, hO, fun Hd sd => ?_⟩⟩
        refine ⟨_, rfl, _, rfl, .list (tdP e), .list (tdP d), .lst (SqL.of (sd _ _ hbbc)) (dp_tdV e), .lst (SqL.of (sd _ _ hppc)) (dp_tdV d), TD.shp oke, TD.shp ok, rfl, _, rfl, iteNF (ne_same (cmpR ok oke)) ?_⟩
        have hMd := hMc.same sd
        have hOd := hO.same sd
        obtain ⟨dxd, hmd⟩ := id hMd
        obtain ⟨dod, hod⟩ := id hOd
        refine ⟨_, rfl, _, rfl, m, o, dxd, dod, _, _, rfl, rfl, hmd, hod, m, d, _, rfl, ok, hMd, .inl ⟨o, e, rfl, oke, hOd, fun He se => ?_⟩⟩
        refine ⟨_, rfl, _, rfl, _, rfl, .list (tdP e), .list (tdP d), .lst (SqL.of (se _ _ (sd _ _ hbbc))) (dp_tdV e), .lst (SqL.of (se _ _ (sd _ _ hppc))) (dp_tdV d), TD.shp oke, TD.shp ok, rfl, _, rfl, iteNF (eq_not (cmpR ok oke)) ?_⟩
        have sf := sc.trans (sd.trans se)
        exact ⟨_, _, _, rfl, (hPb.same sf).mono (by omega), (hB8.trans hBb).trans (But.of sf)⟩
    · rintro σ H8 ⟨x0, y0, z0, rfl, hP8, hB8⟩
      have hpp8 := hB8 _ _ hpp7 npp
      have hM8 := hM7.but hB8 nmp
      obtain ⟨dx8, hm8⟩ := id hM8
      refine ⟨_, rfl, m, dx8, _, rfl, hm8, m, d, rfl, ok, hM8, fun H9 s9 => ⟨_, rfl, ?_⟩⟩
      refine ⟨_, rfl, pp, _, rfl, .inl ⟨SqL.of (s9 _ _ hpp8), fun tu ntu => ?_⟩⟩
      have okS : TD.ok ⟨d.n, d.s, d.l, d.t, d.s⟩ := ⟨ok.1, ok.2.1, ok.2.1, ok.2.2.2.1, ok.2.2.2.2⟩
      refine ⟨_, rfl, _, rfl, _, rfl, _, rfl, _, rfl, ⟨d.n, d.s, d.l, d.t, d.s⟩, rfl, okS, rfl, fun st Hs nst ss hS => ⟨(by show 6 ≤ sizeLine; decide), fun ol nol => ?_⟩⟩
      have sx : Same (upd H9 tu (.tup (tdV d))) (upd Hs ol (.lst [.non, .int 0, .str (Txt.join " " (wordsR d)), .ref tu, .ref pp, .ref st])) := ss.trans (Same.new1 nol)
      have sy := s9.trans ((Same.new1 (o := .tup (tdV d)) ntu).trans sx)
      have hMx := hM8.same sy
      have hPx := hP8.same sy
      have hBx := hB8.trans (But.of sy)
      obtain ⟨dxx, hmx⟩ := id hMx
      obtain ⟨dsx, hsx⟩ := hS.same (Same.new1 (o := .lst [.non, .int 0, .str (Txt.join " " (wordsR d)), .ref tu, .ref pp, .ref st]) nol)
      have kk : ∀ x, x ∈ [V.non, .int 0, .str (Txt.join " " (wordsR d)), .ref tu, .ref pp, .ref st] → ∃ t, TyX K (upd Hs ol (.lst [.non, .int 0, .str (Txt.join " " (wordsR d)), .ref tu, .ref pp, .ref st])) x t ∧ PySem.W.notFirst K ARun t = true ∧ PySem.W.kitOne K t (.ref ARun) = some false := by
        intro x hx
        simp only [List.mem_cons, List.not_mem_nil, or_false] at hx
        rcases hx with rfl | rfl | rfl | rfl | rfl | rfl
        · exact ⟨_, .base .non, T.nf_Run_NoneType, kit_to T.W_Run.ic T.W_Run.ty T.W_Run.n⟩
        · exact ⟨_, .base (.int _), T.nf_Run_int, kit_to T.W_Run.ic T.W_Run.ty T.W_Run.i⟩
        · exact ⟨_, .base (.str _), T.nf_Run_str, kit_to T.W_Run.ic T.W_Run.ty T.W_Run.s⟩
        · exact ⟨_, .base (.tup (sx _ _ upd_same)), T.nf_Run_tuple, kit_to T.W_Run.ic T.W_Run.ty T.W_Run.t⟩
        · exact ⟨_, .base (.lst (sy _ _ hpp8)), T.nf_Run_list, kit_to T.W_Run.ic T.W_Run.ty T.W_Run.l⟩
        · exact ⟨_, (tr_Stay T).ty hsx, T.nf_Run_Stay, kit_ccF T.ic_Run T.ty_Run T.ss_Stay T.su_Stay_Run⟩
      refine ⟨_, rfl, ol, rfl, ⟨_, SqL.of upd_same⟩, fun D nD => ?_⟩
      refine lc_list (K := K) (a := ol) (xs := [V.non, .int 0, .str (Txt.join " " (wordsR d)), .ref tu, .ref pp, .ref st]) (fun i H' => H' D = some (.lst []) ∧ Same (upd Hs ol (.lst [.non, .int 0, .str (Txt.join " " (wordsR d)), .ref tu, .ref pp, .ref st])) H') ⟨upd_same, Same.new1 nD⟩ (fun i H' _ ⟨_, sm⟩ => SqL.of (sm _ _ upd_same)) ?_ ?_
      · rintro i x Hy hx ⟨hDy, smy⟩
        obtain ⟨ty, h1, h2, h3⟩ := kk x (List.mem_of_getElem? hx)
        exact ⟨rfl, _, rfl, _, rfl, m, dxx, _, ty, rfl, smy _ _ hmx, h1.same smy, h2, m, d, _, rfl, ok, hMx.same smy, .inr ⟨ty, h1.same smy, h3, _, rfl, iteNF rfl ⟨hDy, smy⟩⟩⟩
      · rintro Hy ⟨hDy, smy⟩
        refine ⟨(by show 0 ≤ sizeLine; decide), fun e2 ne2 => ?_⟩
        refine ⟨.list [], .list [], .lst (SqL.of ((upd_ne (ne_of_none hDy ne2)).trans hDy)) .nil, .lst (SqL.of upd_same) .nil, by decide, by decide, ?_⟩
        have sz := smy.trans (Same.new1 (o := .lst []) ne2)
        exact k _ ((hPx.same sz).mono (by omega)) (((But.of sa).trans hBx).trans (But.of sz))
theorem c_law_stay_right (T : Txt K mg ATrip APaused ARun AStay) : CalF P w K mg base 6 "_law_stay_right" ["pen", "parts"] spRunRight := by
  have c_law_title := c_law_title (P := P) (w := w) (base := base) T
  have c_law_number := c_law_number (P := P) (w := w) (base := base) T
  have c_law_parts := c_law_parts (P := P) (w := w) (base := base) T
  have c_law_kinds := c_law_kinds (P := P) (w := w) (base := base) T
  have n_Run := n_Run (P := P) (w := w) (base := base) T
  have n_Stay := n_Stay (P := P) (w := w) (base := base) T
  have c_Stay___eq__ := c_Stay___eq__ (P := P) (w := w) (base := base) T
  have c_Stay___str__ := c_Stay___str__ (P := P) (w := w) (base := base) T
  refine T.d_law_stay_right.ok sc_law_stay_right (fun vs H Q E h => ?_) (fun f cdv A outer s H vs Q E hr h => ?_)
  · obtain ⟨p, l, ns, b, pp, d, rfl, _⟩ := h
    rfl
  · obtain ⟨p, l, ns, b, pp, d, rfl, hP, hb, hpp, npp, ok0, k⟩ := h
    refine ⟨_, (pss_cons (ps_asg (pe_slice sl_list (pv 1) po_none (po_some pe_int)) (pg_unl rfl (pgs_cons (pg_name (i := 2) sc_law_stay_right.nd rfl (Or.inl rfl)) (pgs_cons (pg_name (i := 3) sc_law_stay_right.nd rfl (Or.inl rfl)) (pgs_cons (pg_name (i := 4) sc_law_stay_right.nd rfl (Or.inl rfl)) (pgs_cons (pg_name (i := 5) sc_law_stay_right.nd rfl (Or.inl rfl)) pgs_nil))))))
      (pss_cons (ps_set (i := 6) sc_law_stay_right.nd rfl (Or.inr rfl) (pe_w n_Stay hr (pa_cons (pv 2) (pa_cons (pv 3) (pa_cons (pv 4) (pa_cons (pv 5) pa_nil))))))
      (pss_cons (ps_if (PW.pt (pw_or (pt_cmpR op_ne (pe_f c_law_parts hr (pa_cons (pv 6) pa_nil)) (pe_callB (call_reprD hr) (by rfl) T.b_repr (by decide +kernel) (pa_cons (pe_lst (pa_cons (pv 2) (pa_cons (pv 3) (pa_cons (pv 4) (pa_cons (pv 5) (pa_cons (pv 3) pa_nil)))))) pa_nil)) (nomark _)) (pw_or1 (pt_cmpR (op_neD hr.units) (pe_f c_law_kinds hr (pa_cons (pv 6) pa_nil)) (pe_lst (pa_cons pe_bl (pa_cons pe_bl (pa_cons pe_bl (pa_cons pe_bl pa_nil))))) (nomark _))))) (pss_one (ps_ret pe_bl)) pss_nil)
      (pss_cons (ps_if (pt_cmpR op_ne (pe_callTy (call_strOwn c_Stay___str__ hr) (by rfl) T.b_str (by decide +kernel) (pa_cons (pv 6) pa_nil)) (pe_join pe_str (pe_lst (pa_cons pe_str (pa_cons (pv 2) (pa_cons (pv 3) (pa_cons (pe_callTy call_str_int (by rfl) T.b_str (by decide +kernel) (pa_cons (pv 4) pa_nil)) (pa_cons (pe_callTy call_str_int (by rfl) T.b_str (by decide +kernel) (pa_cons (pv 5) pa_nil)) pa_nil))))))) (nomark _)) (pss_one (ps_ret pe_bl)) pss_nil)
      (pss_cons (ps_if (pt_cmpR (ow_ne c_Stay___eq__ hr T.ne_Stay T.ob_Stay) (pv 6) (pe_wk n_Stay T.m_Stay___init__ KB_Stay hr (pk_cons (pv 5) (pk_cons (pv 4) (pk_cons (pv 3) (pk_cons (pv 2) pk_nil))))) (nomark _)) (pss_one (ps_ret pe_bl)) pss_nil)
      (pss_cons (ps_for PassesOwn.never rfl (pi_range1 rfl T.b_range (pa_cons pe_int pa_nil)) (pg_name (i := 7) sc_law_stay_right.nd rfl (Or.inl rfl)) (pss_cons (ps_set (i := 8) sc_law_stay_right.nd rfl (Or.inl rfl) (pe_callTy call_list_of (by rfl) T.b_list (by decide +kernel) (pa_cons (pe_slice sl_list (pv 1) po_none (po_some pe_int)) pa_nil)))
      (C8.pss_cut (ps_asg (pe_ifExp (pt_cmpR op_lt (pv 7) pe_int (nomark _)) (pe_f c_law_title hr (pa_cons (pv 0) pa_nil)) (pe_f c_law_number hr (pa_cons (pv 0) (pa_cons pe_int pa_nil)))) (pg_sub (pv 8) (pv 7) set_list))
      (pss_cons (ps_set (i := 9) sc_law_stay_right.nd rfl (Or.inl rfl) (pe_w n_Stay hr (pa_cons (pe_ix ix_list (pv 8) pe_int (fun _ _ => rfl)) (pa_cons (pe_ix ix_list (pv 8) pe_int (fun _ _ => rfl)) (pa_cons (pe_ix ix_list (pv 8) pe_int (fun _ _ => rfl)) (pa_cons (pe_ix ix_list (pv 8) pe_int (fun _ _ => rfl)) pa_nil))))))
      (pss_one (ps_if (PW.pt (pw_or (pt_cmpR op_ne (pe_cmpR (ow_eq c_Stay___eq__ hr) (pv 6) (pv 9) (nomark _)) (pe_cmpR (op_eqD hr.units) (pv 8) (pe_slice sl_list (pv 1) po_none (po_some pe_int)) (nomark _)) (nomark _)) (pw_or1 (pt_cmpR op_eq (pe_cmpR (ow_ne c_Stay___eq__ hr T.ne_Stay T.ob_Stay) (pv 9) (pv 6) (nomark _)) (pe_cmpR (op_eqD hr.units) (pv 8) (pe_slice sl_list (pv 1) po_none (po_some pe_int)) (nomark _)) (nomark _))))) (pss_one (ps_ret pe_bl)) pss_nil))))))
      (pss_one (ps_ret (pe_cmpR (op_eqD hr.units) (pe_lc (own := [("odd", 10)]) rfl sc_law_stay_right.nd (pi_list (pe_lst (pa_cons pe_non (pa_cons pe_bl (pa_cons (pe_callTy (call_strOwn c_Stay___str__ hr) (by rfl) T.b_str (by decide +kernel) (pa_cons (pv 6) pa_nil)) (pa_cons (pv 1) (pa_cons (pe_w n_Run hr (pa_cons (pv 2) (pa_cons (pv 3) (pa_cons (pv 4) (pa_cons (pv 5) (pa_cons (pv 3) pa_nil)))))) pa_nil))))))) (blkOk_by (N := ["pen", "parts", "title", "home", "when", "span", "made", "at", "bent", "other", "odd"]) (sc := defScope s_law_stay_right) (by decide +kernel)) (fun _ _ _ _ _ => (pg_name (i := 10) sc_law_stay_right.nd rfl (Or.inl rfl))) (fun _ _ _ _ _ => (pts_one (pt_cmpR (ow_eqW c_Stay___eq__ hr) (pv 6) (pv 10) (nomark _)))) (fun _ _ _ _ _ => (pv 10))) (pe_lst pa_nil) (nomark _)))))))))), ?_⟩
    have gd : (⟨d.n, d.s, d.l, d.t, d.s⟩ : TD).g = (⟨d.n, d.s, d.l, d.t, d.s⟩ : TD).s := rfl
    have ok : TD.ok ⟨d.n, d.s, d.l, d.t, d.s⟩ := ⟨ok0.1, ok0.2.1, ok0.2.1, ok0.2.2.2.1, ok0.2.2.2.2⟩
    have cut : cutV (tdV d) none (some 4) = tdV4 ⟨d.n, d.s, d.l, d.t, d.s⟩ := rfl
    refine ⟨_, rfl, _, rfl, pp, _, rfl, SqL.of hpp, fun q0 nq0 => ?_⟩
    refine ⟨q0, _, rfl, SqL.of upd_same, rfl, _, _, rfl, _, _, rfl, _, _, rfl, _, _, rfl, rfl, ?_⟩
    have s0 := Same.new1 (o := .lst (tdV4 ⟨d.n, d.s, d.l, d.t, d.s⟩)) nq0
    have hP0 := hP.same s0
    have hpp0 := s0 _ _ hpp
    obtain ⟨op, hop⟩ := hP0.at_
    have b4 := int_log2 (num_small ok.2.2.2.1)
    have b5 := int_log2 (num_small (i := d.t) ⟨by have := ok0.2.2.2.2; omega, by have := ok0.2.2.2.2; omega⟩)
    refine ⟨_, rfl, _, rfl, _, rfl, _, rfl, ⟨d.n, d.s, d.l, d.t, d.s⟩, rfl, ok, rfl, fun m H1 nm1 s1 hM => ?_⟩
    have nmp : m ≠ p := (ne_of_none hop nm1).symm
    have hP1 := hP0.same s1
    have hpp1 := s1 _ _ hpp0
    refine ⟨_, rfl, m, ⟨d.n, d.s, d.l, d.t, d.s⟩, rfl, ok, .inr hM, fun H2 s2 => ?_⟩
    have hpp2 := s2 _ _ hpp1
    have hM2 := hM.same s2
    refine ⟨_, rfl, _, rfl, _, rfl, _, rfl, _, rfl, (by show 5 ≤ sizeLine; decide), fun qa nqa => ?_⟩
    refine ⟨qa, _, rfl, .lst (SqL.of upd_same) (dp_tdV ⟨d.n, d.s, d.l, d.t, d.s⟩), TD.shw ok, rfl, _, rfl, iteNF (by simp) ?_⟩
    have hM2' := hM2.same (Same.new1 (o := .lst (tdV ⟨d.n, d.s, d.l, d.t, d.s⟩)) nqa)
    refine ⟨_, rfl, m, ⟨d.n, d.s, d.l, d.t, d.s⟩, _, rfl, .inr ⟨hM2', rfl⟩, fun q1 nq1 => ?_⟩
    refine ⟨(by show 4 ≤ sizeLine; decide), fun q2 nq2 => ?_⟩
    refine ⟨.list [.bool true, .bool false, .bool false, .bool true], .list [.bool true, .bool false, .bool false, .bool true], .lst (SqL.of ((upd_ne (ne_of_none upd_same nq2)).trans upd_same)) (.cons (.bl _) (.cons (.bl _) (.cons (.bl _) (.cons (.bl _) .nil)))), .lst (SqL.of upd_same) (.cons (.bl _) (.cons (.bl _) (.cons (.bl _) (.cons (.bl _) .nil)))), by decide, by decide, _, rfl, iteNF (by decide) ?_⟩
    have s3 := s2.trans ((Same.new1 (o := .lst (tdV ⟨d.n, d.s, d.l, d.t, d.s⟩)) nqa).trans ((Same.new1 (o := .lst ([true, false, false, true].map V.bl)) nq1).trans (Same.new1 (o := .lst [.bl true, .bl false, .bl false, .bl true]) nq2)))
    have hM3 := hM.same s3
    obtain ⟨dx3, hm3⟩ := id hM3
    refine ⟨_, rfl, m, dx3, _, rfl, hm3, m, ⟨d.n, d.s, d.l, d.t, d.s⟩, rfl, ok, hM3, fun H4 s4 => ⟨_, rfl, ?_⟩⟩
    refine ⟨⟨_, rfl⟩, _, rfl, _, rfl, _, rfl, d.l, rfl, b4, _, rfl, d.t, rfl, b5, (by show 5 ≤ sizeLine; decide), fun q3 nq3 => ?_⟩
    refine ⟨_, q3, wordsS ⟨d.n, d.s, d.l, d.t, d.s⟩, rfl, rfl, .inl (SqL.of upd_same), wordsS_len ok, rfl, _, rfl, iteNF (by simp) ?_⟩
    have hM4 := (hM3.same s4).same (Same.new1 (o := .lst ((wordsS ⟨d.n, d.s, d.l, d.t, d.s⟩).map V.str)) nq3)
    -- twin
    refine ⟨_, rfl, _, rfl, _, rfl, _, rfl, _, rfl, rfl, ⟨d.n, d.s, d.l, d.t, d.s⟩, rfl, ok, rfl, fun t H5 nt s5 hT => ?_⟩
    have hM5 := hM4.same s5
    obtain ⟨dx5, hm5⟩ := id hM5
    obtain ⟨dt5, ht5⟩ := id hT
    refine ⟨m, t, dx5, dt5, _, _, rfl, rfl, hm5, ht5, m, ⟨d.n, d.s, d.l, d.t, d.s⟩, _, rfl, ok, hM5, .inl ⟨t, ⟨d.n, d.s, d.l, d.t, d.s⟩, rfl, ok, hT, fun H7 s7 => ⟨_, rfl, _, rfl, iteNF (by simp) ?_⟩⟩⟩
    have sa : Same H H7 := s0.trans (s1.trans (s3.trans (s4.trans ((Same.new1 (o := .lst ((wordsS ⟨d.n, d.s, d.l, d.t, d.s⟩).map V.str)) nq3).trans (s5.trans s7)))))
    have hM7 := hM5.same s7
    have hP7 := hP.same sa
    have hpp7 := sa _ _ hpp
    -- the loop
    refine ⟨4, rfl, by decide, by decide, for_range (n := 4) (fun i σ H' => ∃ x y z : Option V, σ = [some (.ref p), some (.ref pp), some (.str d.n), some (.str d.s), some (.int d.l), some (.int d.t), some (.ref m), x, y, z, none] ∧ Pn p l ns (b + 3 * i) H' ∧ But p H7 H') ⟨_, _, _, rfl, hP7.mono (by omega), But.rfl'⟩ ?_ ?_⟩
    · rintro i σ H8 hi ⟨x0, y0, z0, rfl, hP8, hB8⟩
      have hpp8 := hB8 _ _ hpp7 npp
      have hM8 := hM7.but hB8 nmp
      refine ⟨_, rfl, _, rfl, pp, _, rfl, SqL.of hpp8, fun sl nsl => ?_⟩
      refine ⟨sl, _, rfl, .inl (SqL.of upd_same), fun bb nbb => ?_⟩
      have n8 : H8 bb = none := (Same.new1 (o := .lst (tdV4 ⟨d.n, d.s, d.l, d.t, d.s⟩)) nsl).free nbb
      obtain ⟨op8, hop8⟩ := hP8.at_
      have nbp : bb ≠ p := (ne_of_none hop8 n8).symm
      obtain ⟨ol8, hol8⟩ := hP8.atl
      have nbl : bb ≠ l := (ne_of_none hol8 n8).symm
      have hP9 := (hP8.same (Same.new1 (o := .lst (tdV4 ⟨d.n, d.s, d.l, d.t, d.s⟩)) nsl)).same (Same.new1 (o := .lst (tdV4 ⟨d.n, d.s, d.l, d.t, d.s⟩)) nbb)
      have hB9 : But p H8 (upd (upd H8 sl (.lst (tdV4 ⟨d.n, d.s, d.l, d.t, d.s⟩))) bb (.lst (tdV4 ⟨d.n, d.s, d.l, d.t, d.s⟩))) := (But.new nsl).trans (But.new nbb)
      have hba : upd (upd H8 sl (.lst (tdV4 ⟨d.n, d.s, d.l, d.t, d.s⟩))) bb (.lst (tdV4 ⟨d.n, d.s, d.l, d.t, d.s⟩)) bb = some (.lst (tdV4 ⟨d.n, d.s, d.l, d.t, d.s⟩)) := upd_same
      refine ⟨fun σ Hb => ∃ (e : TD), σ = [some (.ref p), some (.ref pp), some (.str d.n), some (.str d.s), some (.int d.l), some (.int d.t), some (.ref m), some (.int (0 + (i : Int))), some (.ref bb), z0, none] ∧ Hb bb = some (.lst (tdV4 e)) ∧ e.ok ∧ e.g = e.s ∧ Pn p l ns (b + 3 * i + 3) Hb ∧ But p H8 Hb, ?_, ?_⟩
      · refine ⟨_, rfl, _, _, rfl, rfl, _, rfl, ?_⟩
        refine ite2 (fun c => ?_) (fun c => ?_)
        · rw [decide_eq_true_eq] at c
          refine ⟨_, rfl, p, l, ns, _, rfl, hP9, by omega, fun z H9 hz hP10 hB10 => ?_⟩
          obtain ⟨e, he, oke, ge⟩ := tdV4_setS (i := i) ok gd (names_nm z hz) (by omega)
          refine ⟨_, rfl, _, rfl, bb, tdV4 ⟨d.n, d.s, d.l, d.t, d.s⟩, _, i, rfl, rfl, hB10 _ _ hba nbp, ixN_i (by show i < 4; omega), ?_⟩
          refine ⟨e, rfl, by rw [upd_same, he], oke, ge, ?_, ?_⟩
          · exact (hP10.upd nbp nbl).mono (by omega)
          · exact But.updNew (hB9.trans hB10) n8
        · rw [decide_eq_true_eq] at c
          refine ⟨_, rfl, p, l, ns, _, 1, rfl, hP9, by omega, ⟨by decide, by decide⟩, fun z H9 hz hP10 hB10 => ?_⟩
          obtain ⟨e, he, oke, ge⟩ := tdV4_setI (i := i) ok gd hz (by omega)
          refine ⟨_, rfl, _, rfl, bb, tdV4 ⟨d.n, d.s, d.l, d.t, d.s⟩, _, i, rfl, rfl, hB10 _ _ hba nbp, ixN_i (by show i < 4; omega), ?_⟩
          refine ⟨e, rfl, by rw [upd_same, he], oke, ge, ?_, ?_⟩
          · exact (hP10.upd nbp nbl).mono (by omega)
          · exact But.updNew (hB9.trans hB10) n8
      · rintro σ Hb ⟨e, rfl, hbb, oke, ge, hPb, hBb⟩
        have hppb := hBb _ _ hpp8 npp
        have hMb := hM8.but hBb nmp
        refine ⟨_, rfl, bb, _, 0, _, rfl, rfl, SqL.of hbb, rfl, ?_⟩
        refine ⟨_, rfl, bb, _, 1, _, rfl, rfl, SqL.of hbb, rfl, ?_⟩
        refine ⟨_, rfl, bb, _, 2, _, rfl, rfl, SqL.of hbb, rfl, ?_⟩
        refine ⟨_, rfl, bb, _, 3, _, rfl, rfl, SqL.of hbb, rfl, ?_⟩
        refine ⟨e, rfl, oke, ge, fun o Hc no sc hO => ?_⟩
        have hMc := hMb.same sc
        have hppc := sc _ _ hppb
        have hbbc := sc _ _ hbb
        obtain ⟨dxc, hmc⟩ := id hMc
        obtain ⟨doc, hoc⟩ := id hO
        refine ⟨_, rfl, _, rfl, m, o, dxc, doc, _, _, rfl, rfl, hmc, hoc, m, ⟨d.n, d.s, d.l, d.t, d.s⟩, _, rfl, ok, hMc, .inl ⟨o, e, rfl, oke, hO, fun Hd sd => ?_⟩⟩
        refine ⟨_, rfl, _, rfl, _, rfl, pp, _, rfl, SqL.of (sd _ _ hppc), fun sl1 nsl1 => ?_⟩
        refine ⟨.list (tdP4 e), .list (tdP4 ⟨d.n, d.s, d.l, d.t, d.s⟩), .lst (SqL.of (Same.new1 nsl1 _ _ (sd _ _ hbbc))) (dp_tdV4 e), .lst (SqL.of upd_same) (dp_tdV4 ⟨d.n, d.s, d.l, d.t, d.s⟩), TD.shp4 oke, TD.shp4 ok, rfl, _, rfl, iteNF (ne_same (cmpS ok oke gd ge)) ?_⟩
        have sd1 := sd.trans (Same.new1 (o := .lst (tdV4 ⟨d.n, d.s, d.l, d.t, d.s⟩)) nsl1)
        have hMd := hMc.same sd1
        have hOd := hO.same sd1
        obtain ⟨dxd, hmd⟩ := id hMd
        obtain ⟨dod, hod⟩ := id hOd
        refine ⟨_, rfl, _, rfl, o, m, dod, dxd, _, _, rfl, rfl, hod, hmd, o, e, _, rfl, oke, hOd, .inl ⟨m, ⟨d.n, d.s, d.l, d.t, d.s⟩, rfl, ok, hMd, fun He se => ?_⟩⟩
        refine ⟨_, rfl, _, rfl, _, rfl, _, rfl, pp, _, rfl, SqL.of (se _ _ (sd1 _ _ hppc)), fun sl2 nsl2 => ?_⟩
        refine ⟨.list (tdP4 e), .list (tdP4 ⟨d.n, d.s, d.l, d.t, d.s⟩), .lst (SqL.of (Same.new1 nsl2 _ _ (se _ _ (sd1 _ _ hbbc)))) (dp_tdV4 e), .lst (SqL.of upd_same) (dp_tdV4 ⟨d.n, d.s, d.l, d.t, d.s⟩), TD.shp4 oke, TD.shp4 ok, rfl, _, rfl, iteNF (eq_not (cmpS' ok oke gd ge)) ?_⟩
        have sf := sc.trans (sd1.trans (se.trans (Same.new1 (o := .lst (tdV4 ⟨d.n, d.s, d.l, d.t, d.s⟩)) nsl2)))
        exact ⟨_, _, _, rfl, (hPb.same sf).mono (by omega), (hB8.trans hBb).trans (But.of sf)⟩
    · rintro σ H8 ⟨x0, y0, z0, rfl, hP8, hB8⟩
      have hpp8 := hB8 _ _ hpp7 npp
      have hM8 := hM7.but hB8 nmp
      obtain ⟨dx8, hm8⟩ := id hM8
      refine ⟨_, rfl, m, dx8, _, rfl, hm8, m, ⟨d.n, d.s, d.l, d.t, d.s⟩, rfl, ok, hM8, fun H9 s9 => ⟨_, rfl, ?_⟩⟩
      have hpp9 := s9 _ _ hpp8
      refine ⟨_, rfl, _, rfl, _, rfl, _, rfl, _, rfl, _, rfl, ⟨d.n, d.s, d.l, d.t, d.s⟩, rfl, ok, fun st Hs nst ss hS => ⟨(by show 5 ≤ sizeLine; decide), fun ol nol => ?_⟩⟩
      have sx : Same H9 (upd Hs ol (.lst [.non, .bl true, .str (Txt.join " " (wordsS ⟨d.n, d.s, d.l, d.t, d.s⟩)), .ref pp, .ref st])) := ss.trans (Same.new1 nol)
      have sy := s9.trans sx
      have hMx := hM8.same sy
      have hPx := hP8.same sy
      have hBx := hB8.trans (But.of sy)
      obtain ⟨dxx, hmx⟩ := id hMx
      obtain ⟨dsx, hsx⟩ := hS.same (Same.new1 (o := .lst [.non, .bl true, .str (Txt.join " " (wordsS ⟨d.n, d.s, d.l, d.t, d.s⟩)), .ref pp, .ref st]) nol)
      have kk : ∀ x, x ∈ [V.non, .bl true, .str (Txt.join " " (wordsS ⟨d.n, d.s, d.l, d.t, d.s⟩)), .ref pp, .ref st] → ∃ t, TyX K (upd Hs ol (.lst [.non, .bl true, .str (Txt.join " " (wordsS ⟨d.n, d.s, d.l, d.t, d.s⟩)), .ref pp, .ref st])) x t ∧ PySem.W.notFirst K AStay t = true ∧ PySem.W.kitOne K t (.ref AStay) = some false := by
        intro x hx
        simp only [List.mem_cons, List.not_mem_nil, or_false] at hx
        rcases hx with rfl | rfl | rfl | rfl | rfl
        · exact ⟨_, .base .non, T.nf_Stay_NoneType, kit_to T.W_Stay.ic T.W_Stay.ty T.W_Stay.n⟩
        · exact ⟨_, .base (.bl _), T.nf_Stay_bool, kit_to T.W_Stay.ic T.W_Stay.ty T.sb_Stay⟩
        · exact ⟨_, .base (.str _), T.nf_Stay_str, kit_to T.W_Stay.ic T.W_Stay.ty T.W_Stay.s⟩
        · exact ⟨_, .base (.lst (sy _ _ hpp8)), T.nf_Stay_list, kit_to T.W_Stay.ic T.W_Stay.ty T.W_Stay.l⟩
        · exact ⟨_, (tr_Run T).ty hsx, T.nf_Stay_Run, kit_ccF T.ic_Stay T.ty_Stay T.ss_Run T.su_Run_Stay⟩
      refine ⟨ol, rfl, ⟨_, SqL.of upd_same⟩, fun D nD => ?_⟩
      refine lc_list (K := K) (a := ol) (xs := [V.non, .bl true, .str (Txt.join " " (wordsS ⟨d.n, d.s, d.l, d.t, d.s⟩)), .ref pp, .ref st]) (fun i H' => H' D = some (.lst []) ∧ Same (upd Hs ol (.lst [.non, .bl true, .str (Txt.join " " (wordsS ⟨d.n, d.s, d.l, d.t, d.s⟩)), .ref pp, .ref st])) H') ⟨upd_same, Same.new1 nD⟩ (fun i H' _ ⟨_, sm⟩ => SqL.of (sm _ _ upd_same)) ?_ ?_
      · rintro i x Hy hx ⟨hDy, smy⟩
        obtain ⟨ty, h1, h2, h3⟩ := kk x (List.mem_of_getElem? hx)
        exact ⟨rfl, _, rfl, _, rfl, m, dxx, _, ty, rfl, smy _ _ hmx, h1.same smy, h2, m, ⟨d.n, d.s, d.l, d.t, d.s⟩, _, rfl, ok, hMx.same smy, .inr ⟨ty, h1.same smy, h3, _, rfl, iteNF rfl ⟨hDy, smy⟩⟩⟩
      · rintro Hy ⟨hDy, smy⟩
        refine ⟨(by show 0 ≤ sizeLine; decide), fun e2 ne2 => ?_⟩
        refine ⟨.list [], .list [], .lst (SqL.of ((upd_ne (ne_of_none hDy ne2)).trans hDy)) .nil, .lst (SqL.of upd_same) .nil, by decide, by decide, ?_⟩
        have sz := smy.trans (Same.new1 (o := .lst []) ne2)
        exact k _ ((hPx.same sz).mono (by omega)) (((But.of sa).trans hBx).trans (But.of sz))
end
/-! ### the law -/
def spLaw (K : PySem.W.Frag) : Sp := fun vs H Q _ => ∃ (a : Addr) (ns : List Int), vs = [.ref a] ∧ SqL K H a (ns.map V.int) ∧ ns.length ≤ 63 ∧ ∀ H', Q (.bl true) H'
theorem okA : TD.ok ⟨"p", "a", 0, 1, "a"⟩ := by
  unfold TD.ok
  decide +kernel
theorem txA : Txt.join " " (wordsR ⟨"p", "a", 0, 1, "a"⟩) = ("run p a 0 1 a" : Str) := by decide +kernel
theorem txB : Txt.join " " (wordsS ⟨"self", "self", 5, 1000000000000, "self"⟩) = ("stay self self 5 1000000000000" : Str) := by decide +kernel
theorem okB : TD.ok ⟨"self", "self", 5, 1000000000000, "self"⟩ := by
  unfold TD.ok
  decide +kernel
section
variable {P : Program} {w : World} {K : PySem.W.Frag} {mg : Str → Option Value} {base : Heap} {ATrip APaused ARun AStay : Addr}
theorem ok_law {f : Addr} {fd : FuncData} (F : Fun K "law" "law" s_law f fd) (T : Txt K mg ATrip APaused ARun AStay) : FnG P w K mg base CX0 7 f fd ["script"] (spLaw K) := by
  have c_law_pen := c_law_pen (P := P) (w := w) (base := base) T
  have c_law_title := c_law_title (P := P) (w := w) (base := base) T
  have c_law_number := c_law_number (P := P) (w := w) (base := base) T
  have c_law_run_right := c_law_run_right (P := P) (w := w) (base := base) T
  have c_law_stay_right := c_law_stay_right (P := P) (w := w) (base := base) T
  have n_Run := n_Run (P := P) (w := w) (base := base) T
  have n_Stay := n_Stay (P := P) (w := w) (base := base) T
  have c_Run___str__ := c_Run___str__ (P := P) (w := w) (base := base) T
  have c_Stay___str__ := c_Stay___str__ (P := P) (w := w) (base := base) T
  refine F.okG sc_law (fun vs H Q E h => ?_) (fun cdv A outer s H vs Q E hr h => ?_)
  · obtain ⟨a, ns, rfl, _⟩ := h
    rfl
  · obtain ⟨a, ns, rfl, hS, hlen, k⟩ := h
    refine ⟨_, (pss_cons (ps_set (i := 1) sc_law.nd rfl (Or.inl rfl) (pe_f c_law_pen hr (pa_cons (pv 0) pa_nil)))
      (pss_cons (ps_for PassesOwn.never rfl (pi_range1 rfl T.b_range (pa_cons pe_int pa_nil)) (pg_name (i := 2) sc_law.nd rfl (Or.inl rfl)) (pss_cons (ps_set (i := 3) sc_law.nd rfl (Or.inl rfl) (pe_lst (pa_cons (pe_f c_law_title hr (pa_cons (pv 1) pa_nil)) (pa_cons (pe_f c_law_title hr (pa_cons (pv 1) pa_nil)) (pa_cons (pe_f c_law_number hr (pa_cons (pv 1) (pa_cons pe_int pa_nil))) (pa_cons (pe_f c_law_number hr (pa_cons (pv 1) (pa_cons pe_int pa_nil))) (pa_cons (pe_f c_law_title hr (pa_cons (pv 1) pa_nil)) pa_nil)))))))
      (pss_one (ps_if (PW.pt (pw_or (pt_not (pt_val (pe_f c_law_run_right hr (pa_cons (pv 1) (pa_cons (pv 3) pa_nil))))) (pw_or1 (pt_not (pt_val (pe_f c_law_stay_right hr (pa_cons (pv 1) (pa_cons (pv 3) pa_nil)))))))) (pss_one (ps_ret pe_bl)) pss_nil))))
      (pss_one (ps_ret (pe_and (pe_cmpR op_eq (pe_callTy (call_strOwn c_Run___str__ hr) (by rfl) T.b_str (by decide +kernel) (pa_cons (pe_w n_Run hr (pa_cons pe_str (pa_cons pe_str (pa_cons pe_int (pa_cons pe_int (pa_cons pe_str pa_nil)))))) pa_nil)) pe_str (nomark _)) (pe_one (pe_cmpR op_eq (pe_callTy (call_strOwn c_Stay___str__ hr) (by rfl) T.b_str (by decide +kernel) (pa_cons (pe_w n_Stay hr (pa_cons pe_str (pa_cons pe_str (pa_cons pe_int (pa_cons (pe_op op_pow pe_int pe_int) pa_nil))))) pa_nil)) pe_str (nomark _)))))))), ?_⟩
    refine ⟨_, rfl, a, ns, rfl, hS, hlen, fun p l ms H1 np s1 hP => ?_⟩
    refine ⟨10, rfl, by decide, by decide, for_range (n := 10) (fun i σ H' => ∃ t u : Option V, σ = [some (.ref a), some (.ref p), t, u] ∧ Pn p l ms (39 * i) H') ⟨_, _, rfl, hP.mono (by omega)⟩ ?_ ?_⟩
    · rintro i σ H2 hi ⟨t, u, rfl, hP2⟩
      refine ⟨_, rfl, p, l, ms, _, rfl, hP2, by omega, fun z1 H3 hz1 hP3 hB3 => ?_⟩
      refine ⟨_, rfl, p, l, ms, _, rfl, hP3, by omega, fun z2 H4 hz2 hP4 hB4 => ?_⟩
      refine ⟨_, rfl, p, l, ms, _, 0, rfl, hP4, by omega, ⟨by decide, by decide⟩, fun n1 H5 hn1 hP5 hB5 => ?_⟩
      refine ⟨_, rfl, p, l, ms, _, 1, rfl, hP5, by omega, ⟨by decide, by decide⟩, fun n2 H6 hn2 hP6 hB6 => ?_⟩
      refine ⟨_, rfl, p, l, ms, _, rfl, hP6, by omega, fun z3 H7 hz3 hP7 hB7 => ?_⟩
      refine ⟨(by show 5 ≤ sizeLine; decide), fun pp npp => ?_⟩
      obtain ⟨op, hop⟩ := hP7.at_
      have nep : pp ≠ p := (ne_of_none hop npp).symm
      have ok : TD.ok ⟨z1, z2, n1, n2, z3⟩ := ⟨names_nm _ hz1, names_nm _ hz2, names_nm _ hz3, hn1, hn2⟩
      have hP8 := hP7.same (Same.new1 (o := .lst (tdV ⟨z1, z2, n1, n2, z3⟩)) npp)
      refine ⟨_, rfl, _, rfl, p, l, ms, _, pp, ⟨z1, z2, n1, n2, z3⟩, rfl, hP8, by omega, upd_same, nep, ok, fun H9 hP9 hB9 => ⟨_, rfl, iteNF rfl ?_⟩⟩
      refine ⟨_, rfl, _, rfl, p, l, ms, _, pp, ⟨z1, z2, n1, n2, z3⟩, rfl, hP9, by omega, hB9 _ _ upd_same nep, nep, ok, fun Ha hPa hBa => ⟨_, rfl, iteNF rfl ?_⟩⟩
      exact ⟨_, _, rfl, hPa.mono (by omega)⟩
    · rintro σ H2 ⟨t, u, rfl, hP2⟩
      have e12 : (10 : Int) ^ Int.toNat 12 = 1000000000000 := by decide
      refine ⟨⟨"p", "a", 0, 1, "a"⟩, rfl, okA, fun m H3 nm3 s3 hM => ?_⟩
      obtain ⟨dx, hm⟩ := id hM
      refine ⟨m, dx, _, rfl, hm, m, ⟨"p", "a", 0, 1, "a"⟩, rfl, okA, hM, fun H4 s4 => ⟨_, rfl, rfl, ?_⟩⟩
      refine ⟨_, rfl, iteD (by rw [txA]) ?_⟩
      refine ⟨_, _, rfl, rfl, ⟨by decide, by decide, by decide⟩, ⟨"self", "self", 5, 1000000000000, "self"⟩, (by show [V.str "self", V.str "self", V.int 5, V.int (10 ^ Int.toNat 12)] = _; rw [e12]; rfl), okB, rfl, fun m2 H5 nm5 s5 hM5 => ?_⟩
      obtain ⟨dx5, hm5⟩ := id hM5
      refine ⟨m2, dx5, _, rfl, hm5, m2, ⟨"self", "self", 5, 1000000000000, "self"⟩, rfl, okB, hM5, fun H6 s6 => ⟨_, rfl, rfl, ?_⟩⟩
      rw [txB]
      have e : decide (V.str ("stay self self 5 1000000000000" : Str) = V.str ("stay self self 5 1000000000000" : Str)) = true := decide_eq_true rfl
      rw [e]
      exact k _
end
theorem law_end {l : PySem.W.OpenLaw} {w : World} {K : PySem.W.Frag} {mg : Str → Option Value} {fa : Addr} {ATrip APaused ARun AStay : Addr} (T : Txt K mg ATrip APaused ARun AStay) (hfa : mg "law" = some (.ref fa)) :
    ∃ fd : FuncData, (∀ (s : Shared) (v : Value), BindsTo s fd ⟨[v], []⟩ [("script", v)]) ∧ ∀ base : Heap, K.In base → base.Ns mainGlobals mg → FnG l.prog w K mg base CX0 7 fa fd ["script"] (spLaw K) := by
  obtain ⟨f, fd, F, hm, b⟩ := T.d_law.ex
  have e := hfa.symm.trans hm
  cases e
  obtain ⟨oc, od, kV, doc, pm, an, cdv, ct, osl, rfl, lk, hcd⟩ := id F.ex
  exact ⟨_, fun s v => .of_eq rfl, fun base _ _ => ok_law F T⟩
theorem walk {l : PySem.W.OpenLaw} {q : Program} {loose : List Str} {XP : (Str → Option Value) → Heap → Prop} {YP : World → Heap → Prop} {d : DefRec} {K : Params → PySem.W.Frag} (hn : l.most = some 63) (hdf : d.params.defaults = [])
    (hY : ∀ (w : World) (h : Heap), YP w h → (K w.params).In h)
    (F : ∀ (w : World) (mg : Str → Option Value) (fa : Addr) (h : Heap), (K w.params).In h → h.Ns mainGlobals mg → mg d.name = some (.ref fa) →
      ∃ fd : FuncData, (∀ (s : Shared) (u : Value), BindsTo s fd ⟨[u], []⟩ [("script", u)]) ∧ ∀ base : Heap, (K w.params).In base → base.Ns mainGlobals mg → FnG l.prog w (K w.params) mg base CX0 7 fa fd ["script"] (spLaw (K w.params))) :
    PySem.W.WalkO q loose XP YP l.row.toRowW d [] (fun f vs => PySem.call f vs) :=
  OL.walk_ofG (n := 63) (k := 7) (x := "script") (CX := fun _ => CX0) (sp := fun w => spLaw (K w.params)) hn (by decide) hdf ⟨rfl, by decide, by decide⟩ hY F (fun _ _ a ns hl _ hS => ⟨a, ns, rfl, hS, hl, fun _ => rfl⟩) fun _ _ _ _ _ z => z
end OLP
open PySem PySem.W PyProof.Rows
set_option maxRecDepth 100000 in
set_option maxHeartbeats 0 in
theorem PySem.Challenge.cw_onelongturn_k12_trips_made_holds : PySem.Challenge.rw_onelongturn_k12_trips_made.Holds := by
  w_on; o_law; k_head; (case hw => w_witness2)
  k_fill
  refine OLP.walk (l := PySem.Challenge.rw_onelongturn_k12_trips_made) rfl rfl (fun w h Y => PySem.W.kIn_of Y) ?F
  case F =>
    intro w mg fa h KX G hmg
    refine' OLP.law_end (OLP.Txt.mk ?d_is_int ?d_is_number ?d_is_number_from_one ?d_is_name ?m_Run___init__ ?m_Run___eq__ ?m_Run___str__ ?m_Stay___init__ ?m_Stay___eq__ ?m_Stay___str__ ?d_check_trip ?d_words_of ?d_law_pen ?d_law_draw ?d_law_pick ?d_law_title ?d_law_number ?d_law_kinds ?d_law_parts ?d_law_run_right ?d_law_stay_right ?d_law ?C_Trip ?C_Paused ?C_Run ?C_Stay ?R_Run ?ne_Run ?ob_Run ?I_Run ?ss_Run ?na_Run_name ?na_Run_start ?na_Run_leaves ?na_Run_takes ?na_Run_goal ?su_Run_Trip ?su_Run_Paused ?su_Run_Stay ?nf_Run_Stay ?nf_Run_NoneType ?nf_Run_int ?nf_Run_bool ?nf_Run_str ?nf_Run_tuple ?nf_Run_list ?sb_Run ?R_Stay ?ne_Stay ?ob_Stay ?I_Stay ?ss_Stay ?na_Stay_name ?na_Stay_start ?na_Stay_leaves ?na_Stay_takes ?na_Stay_goal ?su_Stay_Trip ?su_Stay_Paused ?su_Stay_Run ?nf_Stay_Run ?nf_Stay_NoneType ?nf_Stay_int ?nf_Stay_bool ?nf_Stay_str ?nf_Stay_tuple ?nf_Stay_list ?sb_Stay ?ic_Trip ?ty_Trip ?ic_Paused ?ty_Paused ?ic_Run ?ty_Run ?W_Run ?ic_Stay ?ty_Stay ?W_Stay ?g_MOST ?g_LONGEST_NAME ?b_isinstance ?b_int ?b_bool ?b_list ?b_len ?b_abs ?b_range ?b_repr ?b_str ?b_all ?b_max ?b_tuple) hmg
    (case C_Trip => (refine' OL.ClsT.of KX G ?a ?b ?c ?d ?e ?f ?g; (case a => k_is); (case b => k_is); (case c => k_is); (case d => k_is); (case e => k_is); (case f => k_is); (case g => k_is)))
    (case C_Paused => (refine' OL.ClsT.of KX G ?a ?b ?c ?d ?e ?f ?g; (case a => k_is); (case b => k_is); (case c => k_is); (case d => k_is); (case e => k_is); (case f => k_is); (case g => k_is)))
    (case C_Run => (refine' OL.ClsT.of KX G ?a ?b ?c ?d ?e ?f ?g; (case a => k_is); (case b => k_is); (case c => k_is); (case d => k_is); (case e => k_is); (case f => k_is); (case g => k_is)))
    (case C_Stay => (refine' OL.ClsT.of KX G ?a ?b ?c ?d ?e ?f ?g; (case a => k_is); (case b => k_is); (case c => k_is); (case d => k_is); (case e => k_is); (case f => k_is); (case g => k_is)))
    (case d_is_int => (refine' OL.DefT.of KX G ?a ?l ?c ?k (fun _ _ _ _ _ _ us hl => match us, hl with | [_], _ => rfl); (case a => k_is); (case l => k_is); (case c => k_is); (case k => k_is)))
    (case d_is_number => (refine' OL.DefT.of KX G ?a ?l ?c ?k (fun _ _ _ _ _ _ us hl => match us, hl with | [_], _ => rfl); (case a => k_is); (case l => k_is); (case c => k_is); (case k => k_is)))
    (case d_is_number_from_one => (refine' OL.DefT.of KX G ?a ?l ?c ?k (fun _ _ _ _ _ _ us hl => match us, hl with | [_], _ => rfl); (case a => k_is); (case l => k_is); (case c => k_is); (case k => k_is)))
    (case d_is_name => (refine' OL.DefT.of KX G ?a ?l ?c ?k (fun _ _ _ _ _ _ us hl => match us, hl with | [_], _ => rfl); (case a => k_is); (case l => k_is); (case c => k_is); (case k => k_is)))
    (case m_Run___init__ => (refine' OL.MethT.of ?a ?i ?l ?c ?k (fun _ _ _ _ _ _ us hl => match us, hl with | [_, _, _, _, _, _], _ => rfl); (case a => k_is); (case i => k_is); (case l => k_is); (case c => k_is); (case k => k_is)))
    (case m_Run___eq__ => (refine' OL.MethT.of ?a ?i ?l ?c ?k (fun _ _ _ _ _ _ us hl => match us, hl with | [_, _], _ => rfl); (case a => k_is); (case i => k_is); (case l => k_is); (case c => k_is); (case k => k_is)))
    (case m_Run___str__ => (refine' OL.MethT.of ?a ?i ?l ?c ?k (fun _ _ _ _ _ _ us hl => match us, hl with | [_], _ => rfl); (case a => k_is); (case i => k_is); (case l => k_is); (case c => k_is); (case k => k_is)))
    (case m_Stay___init__ => (refine' OL.MethT.of ?a ?i ?l ?c ?k (fun _ _ _ _ _ _ us hl => match us, hl with | [_, _, _, _, _], _ => rfl); (case a => k_is); (case i => k_is); (case l => k_is); (case c => k_is); (case k => k_is)))
    (case m_Stay___eq__ => (refine' OL.MethT.of ?a ?i ?l ?c ?k (fun _ _ _ _ _ _ us hl => match us, hl with | [_, _], _ => rfl); (case a => k_is); (case i => k_is); (case l => k_is); (case c => k_is); (case k => k_is)))
    (case m_Stay___str__ => (refine' OL.MethT.of ?a ?i ?l ?c ?k (fun _ _ _ _ _ _ us hl => match us, hl with | [_], _ => rfl); (case a => k_is); (case i => k_is); (case l => k_is); (case c => k_is); (case k => k_is)))
    (case d_check_trip => (refine' OL.DefT.of KX G ?a ?l ?c ?k (fun _ _ _ _ _ _ us hl => match us, hl with | [_, _, _, _], _ => rfl); (case a => k_is); (case l => k_is); (case c => k_is); (case k => k_is)))
    (case d_words_of => (refine' OL.DefT.of KX G ?a ?l ?c ?k (fun _ _ _ _ _ _ us hl => match us, hl with | [_], _ => rfl); (case a => k_is); (case l => k_is); (case c => k_is); (case k => k_is)))
    (case d_law_pen => (refine' OL.DefT.of KX G ?a ?l ?c ?k (fun _ _ _ _ _ _ us hl => match us, hl with | [_], _ => rfl); (case a => k_is); (case l => k_is); (case c => k_is); (case k => k_is)))
    (case d_law_draw => (refine' OL.DefT.of KX G ?a ?l ?c ?k (fun _ _ _ _ _ _ us hl => match us, hl with | [_, _], _ => rfl); (case a => k_is); (case l => k_is); (case c => k_is); (case k => k_is)))
    (case d_law_pick => (refine' OL.DefT.of KX G ?a ?l ?c ?k (fun _ _ _ _ _ _ us hl => match us, hl with | [_, _], _ => rfl); (case a => k_is); (case l => k_is); (case c => k_is); (case k => k_is)))
    (case d_law_title => (refine' OL.DefT.of KX G ?a ?l ?c ?k (fun _ _ _ _ _ _ us hl => match us, hl with | [_], _ => rfl); (case a => k_is); (case l => k_is); (case c => k_is); (case k => k_is)))
    (case d_law_number => (refine' OL.DefT.of KX G ?a ?l ?c ?k (fun _ _ _ _ _ _ us hl => match us, hl with | [_, _], _ => rfl); (case a => k_is); (case l => k_is); (case c => k_is); (case k => k_is)))
    (case d_law_kinds => (refine' OL.DefT.of KX G ?a ?l ?c ?k (fun _ _ _ _ _ _ us hl => match us, hl with | [_], _ => rfl); (case a => k_is); (case l => k_is); (case c => k_is); (case k => k_is)))
    (case d_law_parts => (refine' OL.DefT.of KX G ?a ?l ?c ?k (fun _ _ _ _ _ _ us hl => match us, hl with | [_], _ => rfl); (case a => k_is); (case l => k_is); (case c => k_is); (case k => k_is)))
    (case d_law_run_right => (refine' OL.DefT.of KX G ?a ?l ?c ?k (fun _ _ _ _ _ _ us hl => match us, hl with | [_, _], _ => rfl); (case a => k_is); (case l => k_is); (case c => k_is); (case k => k_is)))
    (case d_law_stay_right => (refine' OL.DefT.of KX G ?a ?l ?c ?k (fun _ _ _ _ _ _ us hl => match us, hl with | [_, _], _ => rfl); (case a => k_is); (case l => k_is); (case c => k_is); (case k => k_is)))
    (case d_law => (refine' OL.DefT.of KX G ?a ?l ?c ?k (fun _ _ _ _ _ _ us hl => match us, hl with | [_], _ => rfl); (case a => k_is); (case l => k_is); (case c => k_is); (case k => k_is)))
    (case R_Run => (refine' ⟨?a, ?b, ?c⟩; (case a => k_is); (case b => k_is); (case c => k_is)))
    (case ne_Run => k_is)
    (case ob_Run => k_is)
    (case I_Run => (refine' ⟨?a, ?b, ?c, ?d⟩; (case a => k_is); (case b => k_is); (case c => k_is); (case d => k_is)))
    (case ss_Run => k_is)
    (case na_Run_name => k_is)
    (case na_Run_start => k_is)
    (case na_Run_leaves => k_is)
    (case na_Run_takes => k_is)
    (case na_Run_goal => k_is)
    (case su_Run_Trip => k_is)
    (case su_Run_Paused => k_is)
    (case su_Run_Stay => k_is)
    (case nf_Run_Stay => k_is)
    (case nf_Run_NoneType => k_is)
    (case nf_Run_int => k_is)
    (case nf_Run_bool => k_is)
    (case nf_Run_str => k_is)
    (case nf_Run_tuple => k_is)
    (case nf_Run_list => k_is)
    (case sb_Run => k_is)
    (case R_Stay => (refine' ⟨?a, ?b, ?c⟩; (case a => k_is); (case b => k_is); (case c => k_is)))
    (case ne_Stay => k_is)
    (case ob_Stay => k_is)
    (case I_Stay => (refine' ⟨?a, ?b, ?c, ?d⟩; (case a => k_is); (case b => k_is); (case c => k_is); (case d => k_is)))
    (case ss_Stay => k_is)
    (case na_Stay_name => k_is)
    (case na_Stay_start => k_is)
    (case na_Stay_leaves => k_is)
    (case na_Stay_takes => k_is)
    (case na_Stay_goal => k_is)
    (case su_Stay_Trip => k_is)
    (case su_Stay_Paused => k_is)
    (case su_Stay_Run => k_is)
    (case nf_Stay_Run => k_is)
    (case nf_Stay_NoneType => k_is)
    (case nf_Stay_int => k_is)
    (case nf_Stay_bool => k_is)
    (case nf_Stay_str => k_is)
    (case nf_Stay_tuple => k_is)
    (case nf_Stay_list => k_is)
    (case sb_Stay => k_is)
    (case ic_Trip => k_is)
    (case ty_Trip => k_is)
    (case ic_Paused => k_is)
    (case ty_Paused => k_is)
    (case ic_Run => k_is)
    (case ty_Run => k_is)
    (case W_Run => (refine' ⟨?a, ?b, ?c, ?d, ?e, ?f, ?g⟩; (case a => k_is); (case b => k_is); (case c => k_is); (case d => k_is); (case e => k_is); (case f => k_is); (case g => k_is)))
    (case ic_Stay => k_is)
    (case ty_Stay => k_is)
    (case W_Stay => (refine' ⟨?a, ?b, ?c, ?d, ?e, ?f, ?g⟩; (case a => k_is); (case b => k_is); (case c => k_is); (case d => k_is); (case e => k_is); (case f => k_is); (case g => k_is)))
    (case g_MOST => (refine' OL.GlT.ofI KX G ?a; (case a => k_is)))
    (case g_LONGEST_NAME => (refine' OL.GlT.ofI KX G ?a; (case a => k_is)))
    (case b_isinstance => (refine' PySem.W.mg_none_of KX G ?a; (case a => k_is)))
    (case b_int => (refine' PySem.W.mg_none_of KX G ?a; (case a => k_is)))
    (case b_bool => (refine' PySem.W.mg_none_of KX G ?a; (case a => k_is)))
    (case b_list => (refine' PySem.W.mg_none_of KX G ?a; (case a => k_is)))
    (case b_len => (refine' PySem.W.mg_none_of KX G ?a; (case a => k_is)))
    (case b_abs => (refine' PySem.W.mg_none_of KX G ?a; (case a => k_is)))
    (case b_range => (refine' PySem.W.mg_none_of KX G ?a; (case a => k_is)))
    (case b_repr => (refine' PySem.W.mg_none_of KX G ?a; (case a => k_is)))
    (case b_str => (refine' PySem.W.mg_none_of KX G ?a; (case a => k_is)))
    (case b_all => (refine' PySem.W.mg_none_of KX G ?a; (case a => k_is)))
    (case b_max => (refine' PySem.W.mg_none_of KX G ?a; (case a => k_is)))
    (case b_tuple => (refine' PySem.W.mg_none_of KX G ?a; (case a => k_is)))

