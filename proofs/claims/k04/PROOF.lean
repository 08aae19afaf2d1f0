import PyProof.Rows.All
import Wide.All
import OpenK.AllK
import Wide.FinOn
import HandS.Codes
import HandS.ForMost
import HandS.IsInst
import HandS.OwnEq
import HandS.Wide
import PySem.Challenge.RW_onelongturn_k04_whole_days_that_come_rou
set_option Elab.async false
set_option linter.all false
set_option maxRecDepth 100000
set_option maxHeartbeats 2000000
set_option Elab.async false
set_option linter.all false
set_option maxRecDepth 100000
set_option maxHeartbeats 1000000
/-! Operators of own classes: an own class's special method at the left or the right of a sign. -/
namespace OL
open PySem PySem.W PySem.Calls PyProof.Rows Builtin

section
variable {prog : Program} {w : World} {A : Around} {E : Value → Shared → Prop} {s : Shared} {K : Frag} {x C L f : Addr} {h₀ : Heap} {m : Str → Option Value} {ox : Obj} {od : Option Obj}

/-- a class with the reflected method alone fills the slot -/
theorem fillsR_K {M : Model} {h : Heap} {nm : String} {cd : ClassData} {rest : List Value} (X : K.In h) (hc : clsIn K C = some cd) (hm : cd.mro = .ref C :: rest) (h0 : findIn K (.ref C) (PySem.dunder nm) = some none)
    (hs : findIn K (.ref C) (dunderR nm) = some (some (.ref f))) : Looks M h (fillsNumberSlot (.ref C) nm) true := by
  intro A Q E s k q
  unfold fillsNumberSlot
  refine wpAny_bind ((looks_clsIn X hc).andThen (f := fun cd => pure cd.mro) .now A _ E s k ?_)
  rw [hm, List.anyM_cons]
  refine wpAny_bind ?_
  show wpAny M A (List.anyM _ [PySem.dunder nm, dunderR nm]) _ _ _
  rw [List.anyM_cons]
  refine wpAny_bind (wpAny_bind (looks_findIn X h0 A _ E s k ?_))
  dsimp only
  refine wpAny_pure ?_
  rw [if_neg (by decide)]
  rw [List.anyM_cons]
  refine wpAny_bind (wpAny_bind (looks_findIn X hs A _ E s k ?_))
  dsimp only
  rw [if_pos (show (!ownNameWrapper (.ref f) (dunderR nm)) = true from rfl)]
  refine wpAny_pure ?_
  rw [if_pos rfl]
  refine wpAny_pure ?_
  rw [if_pos rfl]
  exact wpAny_pure q

/-- a op instance, a of a built-in type T that declines: the instance's reflected method answers -/
theorem rbinop1_K {nm : String} {a : Value} {T idl : String} {Q : Option Value → Shared → Prop} (F : Fr h₀ L s.heap m) (X₀ : K.In h₀) (I : InstAt s.heap x ox C od) (hc : selfFirst K C = true)
    (hfill : ∀ (cd : ClassData) (rest : List Value), clsIn K C = some cd → cd.mro = .ref C :: rest → Looks (model prog w) s.heap (fillsNumberSlot (.ref C) nm) true)
    (ha : s.TypeIs a T) (hfT : fillsNumberSlot (.type T) nm = pure true) (hsub : subIn K (.ref C) (.type T) = some false) (hl : Slot T (PySem.dunder nm) idl)
    (hs : findIn K (.ref C) (dunderR nm) = some (some (.ref f))) (hf : isFn K (.ref f) = true)
    (h : wpAny (model prog w) A (call (.builtin idl) [a, .ref x]) (fun v s₁ => v = .notImplemented ∧ s₁.heap = s.heap ∧ wpAny (model prog w) A (call (.ref f) [.ref x, a]) (PySem.W.CmpBack fun v => Q (some v)) E s₁) E s) :
    wpAny (model prog w) A (binaryOp1 nm a (.ref x)) Q E s := by
  have X := X₀.keeps F.keep
  obtain ⟨cd, hcd, hm⟩ := any_some hc
  obtain ⟨rest, hm⟩ : ∃ rest, cd.mro = .ref C :: rest := by
    cases q : cd.mro with
    | nil => rw [q] at hm; cases hm
    | cons a r => rw [q] at hm; exact ⟨r, by rw [List.head?_cons] at hm; cases (beq_iff_eq.mp hm); rfl⟩
  simp only [binaryOp1]
  refine wpAny_bind (wpAny_typeOf ha (wpAny_bind (I.type.here (wpAny_bind (wpAny_of_eq hfT ?_)))))
  have hne : (Value.type T == Value.ref C) = false := by simp
  simp only [hne, Bool.false_eq_true, if_false]
  refine wpAny_bind ((hfill cd rest hcd hm).here ?_)
  simp only [Bool.and_self, if_true]
  refine wpAny_bind ((looks_subIn X hsub).here ?_)
  have hpy : numberSlotInPython (.type T) nm = pure false := rfl
  simp only [Bool.false_eq_true, if_false, pure_bind, Bool.not_false, Bool.and_self, if_true, hpy]
  simp only [tryMethod]
  refine wpAny_bind (wpAny_bind (wpAny_callSpecial?_slot ha hl (wpAny_mono h (fun v s₁ h₁ => ?_) fun _ _ x => x)))
  obtain ⟨rfl, hh, hq⟩ := h₁
  have X1 : K.In s₁.heap := by rw [hh]; exact X
  have I1 : InstAt s₁.heap x ox C od := by rw [hh]; exact I
  refine wpAny_pure (wpAny_bind (wpAny_bind (special_fn X1 I1 hs (beq_iff_eq.mp hf) (wpAny_mono hq (fun v' s₂ h₂ => ?_) fun _ _ x => x))))
  cases v' <;> first | exact h₂.elim | exact wpAny_pure (wpAny_bind (wpAny_rule (wpAny_pure h₂)))
theorem rbinop_K {op : Operator} {a : Value} {T idl : String} {Q : Value → Shared → Prop} (F : Fr h₀ L s.heap m) (X₀ : K.In h₀) (I : InstAt s.heap x ox C od) (hc : selfFirst K C = true)
    (hfill : ∀ (cd : ClassData) (rest : List Value), clsIn K C = some cd → cd.mro = .ref C :: rest → Looks (model prog w) s.heap (fillsNumberSlot (.ref C) op.info.2) true)
    (ha : s.TypeIs a T) (hfT : fillsNumberSlot (.type T) op.info.2 = pure true) (hsub : subIn K (.ref C) (.type T) = some false) (hl : Slot T (PySem.dunder op.info.2) idl)
    (hs : findIn K (.ref C) (dunderR op.info.2) = some (some (.ref f))) (hf : isFn K (.ref f) = true)
    (h : wpAny (model prog w) A (call (.builtin idl) [a, .ref x]) (fun v s₁ => v = .notImplemented ∧ s₁.heap = s.heap ∧ wpAny (model prog w) A (call (.ref f) [.ref x, a]) (PySem.W.CmpBack Q) E s₁) E s) :
    wpAny (model prog w) A (binaryOp op a (.ref x)) Q E s := by
  rcases hi : op.info with ⟨sym, nm⟩
  rw [hi] at hfill hfT hl hs
  simp only [binaryOp, hi]
  refine wpAny_holding ?_
  refine wpAny_bind (rbinop1_K F X₀ I hc hfill ha hfT hsub hl hs hf (wpAny_mono h (fun v s₁ h₁ => ⟨h₁.1, h₁.2.1, wpAny_mono h₁.2.2 (fun v' s₂ h₂ => ?_) fun _ _ x => x⟩) fun _ _ x => x))
  cases v' <;> first | exact h₂.elim | exact wpAny_pure h₂
/-- an int slot declines an instance of an own class -/
theorem int_mod_inst {i : Int} {t : Tok} {Q : Value → Shared → Prop} (I : InstAt s.heap x ox C od) (hd : ox.data = .plain) (h : ∀ tk, Q .notImplemented { s with toks := tk }) :
    wpAny (model prog w) A (call (.builtin "int.__mod__") [.int i t, .ref x]) Q E s := by
  refine wpAny_call (codeAny_call_builtin F.slot_int_mod.plain F.entry_int_mod (F.slot_int_mod.check _ _ _ _ _ _ _ _ (typeIs_int s i t) (F.args_int_mod_2 _ _) ?_))
  obtain ⟨hp, g, d, tk, os⟩ := s
  obtain ⟨oc, odd, data, sl⟩ := ox
  simp only at hd
  subst hd
  have hl : hp.get? x = some _ := I.at_
  wp_walk
  exact h tk
theorem int_floordiv_inst {i : Int} {t : Tok} {Q : Value → Shared → Prop} (I : InstAt s.heap x ox C od) (hd : ox.data = .plain) (h : ∀ tk, Q .notImplemented { s with toks := tk }) :
    wpAny (model prog w) A (call (.builtin "int.__floordiv__") [.int i t, .ref x]) Q E s := by
  refine wpAny_call (codeAny_call_builtin F.slot_int_floordiv.plain F.entry_int_floordiv (F.slot_int_floordiv.check _ _ _ _ _ _ _ _ (typeIs_int s i t) (F.args_int_floordiv_2 _ _) ?_))
  obtain ⟨hp, g, d, tk, os⟩ := s
  obtain ⟨oc, odd, data, sl⟩ := ox
  simp only at hd
  subst hd
  have hl : hp.get? x = some _ := I.at_
  wp_walk
  exact h tk
theorem int_mul_inst {i : Int} {t : Tok} {Q : Value → Shared → Prop} (I : InstAt s.heap x ox C od) (hd : ox.data = .plain) (h : ∀ tk, Q .notImplemented { s with toks := tk }) :
    wpAny (model prog w) A (call (.builtin "int.__mul__") [.int i t, .ref x]) Q E s := by
  refine wpAny_call (codeAny_call_builtin F.slot_int_mul.plain F.entry_int_mul (F.slot_int_mul.check _ _ _ _ _ _ _ _ (typeIs_int s i t) (F.args_int_mul_2 _ _) ?_))
  obtain ⟨hp, g, d, tk, os⟩ := s
  obtain ⟨oc, odd, data, sl⟩ := ox
  simp only at hd
  subst hd
  have hl : hp.get? x = some _ := I.at_
  wp_walk
  exact h tk
/-- callSpecialIfBound? where the class's lookup finds a built-in slot -/
theorem ifBoundB_K {M : Model} {name : Str} {id : String} {args : List Value} {Q : Option Value → Shared → Prop} (X : K.In s.heap) (I : InstAt s.heap x ox C od) (hs : findIn K (.ref C) name = some (some (.builtin id)))
    (hb : ∀ self, bindSpecial (.builtin id) self = pure (.builtin id, [self]))
    (h : wpAny M A (call (.builtin id) (.ref x :: args)) (fun v => Q (some v)) E s) : wpAny M A (callSpecialIfBound? (.ref x) name args) Q E s := by
  simp only [callSpecialIfBound?, bindSpecialIfBound?]
  refine wpAny_holding (wpAny_bind (wpAny_bind (wpAny_bind (I.type.here ((looks_findIn X hs).here ?_)))))
  refine wpAny_bind (wpAny_askSetting (wpAny_ite ?_))
  have fin : wpAny M A (call (.builtin id) ([.ref x] ++ args) >>= fun v => pure (some v)) Q E s := wpAny_bind (wpAny_mono h (fun v s' h' => wpAny_pure h') fun _ _ h' => h')
  simp only [hb]
  split
  · exact wpAny_bind (wpAny_pure (wpAny_pure (by exact fin)))
  · exact wpAny_tryCatch (wpAny_bind (wpAny_pure (wpAny_pure (by exact fin))))
/-- x != b by an own __eq__ (no own __ne__) -/
theorem ne_K {b tb : Value} {Q : Value → Shared → Prop} (hu : A.units + 1 < cLine) (F : Fr h₀ L s.heap m) (X₀ : K.In h₀) (I : InstAt s.heap x ox C od) (hb : Looks (model prog w) s.heap (typeOf b) tb) (hn : notFirst K C tb = true)
    (hne : findIn K (.ref C) "__ne__" = some (some (.builtin "object.__ne__"))) (hmr : mroIn K C (.type "object") = some true)
    (hs : findIn K (.ref C) "__eq__" = some (some (.ref f))) (hf : isFn K (.ref f) = true)
    (h : wpAny (model prog w) A.in1 (call (.ref f) [.ref x, b]) (fun v s' => ∃ r, v = .bool r ∧ Q (.bool (!r)) s') E s) : wpAny (model prog w) A (richCompare .NotEq (.ref x) b) Q E s := by
  have X := X₀.keeps F.keep
  have sub : Looks (model prog w) s.heap (isInstance (.ref x) (.type "object")) true := I.type.andThen (looks_mroIn X hmr)
  have one : wpAny (model prog w) A (tryCompare (.ref x) (cmpInfo .NotEq).2.1 b) (fun r s' => ∃ v, r = some v ∧ Q v s') E s := by
    unfold tryCompare
    refine wpAny_bind (ifBoundB_K X I hne PySem.F.slot_object_ne.bind (wpAny_call (codeAny_call_builtin PySem.F.slot_object_ne.plain PySem.F.cmpEntry_ne
      (check_slot PySem.F.cmpKind_ne PySem.F.cmpSplit_ne sub (PySem.F.cmpArgs_ne _ _) ?_))))
    unfold Builtin.«object.__ne__»
    have hu' : A.in1.units < cLine := hu
    repeat (first
      | with_reducible refine wpAny_cRoomFor hu' ?_
      | (refine wpAny_bind (m := callSpecialIfBound? (.ref x) (Str.ofString "__eq__") [b])
          (ifBound_K X I hs hf (wpAny_mono h (fun r s' hr => by
            obtain ⟨b, rfl, hq⟩ := hr
            repeat (first | exact ⟨_, rfl, hq⟩ | (refine wpAny_pure ⟨_, rfl, hq⟩) | (refine wpAny_bind (m := truthy (.bool _)) (wpAny_truthy_bool ?_)) | wp_step)) fun _ _ e => e)))
      | wp_step)
  unfold richCompare
  simp only [oneThing_ref]
  refine wpAny_holding (wpAny_bind (wpAny_cRoomFor (Nat.lt_of_succ_lt hu) ?_))
  refine wpAny_bind (I.type.here (wpAny_bind (hb.here ?_)))
  split
  · rename_i q
    have e : subIn K tb (.ref C) = some false := by
      rcases Bool.or_eq_true_iff.mp hn with e | e
      · rw [beq_iff_eq.mp e] at q; simp at q
      · exact beq_iff_eq.mp e
    refine wpAny_bind ((looks_subIn X e).here ?_)
    simp only [Bool.false_eq_true, if_false]
    refine wpAny_bind (wpAny_mono one (fun r s' z => ?_) fun _ _ e => e)
    obtain ⟨v, rfl, hq⟩ := z
    exact wpAny_pure hq
  · refine wpAny_bind (wpAny_pure ?_)
    simp only [Bool.false_eq_true, if_false]
    refine wpAny_bind (wpAny_mono one (fun r s' z => ?_) fun _ _ e => e)
    obtain ⟨v, rfl, hq⟩ := z
    exact wpAny_pure hq
/-- x op b, x an instance whose own method answers, b of a built-in type -/
theorem lbinop1_K {nm : String} {b : Value} {T idr : String} {q : Option Value} {Q : Option Value → Shared → Prop} (F : Fr h₀ L s.heap m) (X₀ : K.In h₀) (I : InstAt s.heap x ox C od) (hc : selfFirst K C = true)
    (hb : s.TypeIs b T) (hfT : fillsNumberSlot (.type T) nm = pure true) (hsub : subIn K (.type T) (.ref C) = some false) (hr : Slot T (dunderR nm) idr)
    (hs : findIn K (.ref C) (PySem.dunder nm) = some (some (.ref f))) (hf : isFn K (.ref f) = true) (hsr : findIn K (.ref C) (dunderR nm) = some q)
    (hq : q = none ∨ ∃ g, q = some (.ref g))
    (h : wpAny (model prog w) A (call (.ref f) [.ref x, b]) (PySem.W.CmpBack fun v => Q (some v)) E s) : wpAny (model prog w) A (binaryOp1 nm (.ref x) b) Q E s := by
  have X := X₀.keeps F.keep
  obtain ⟨cd, hcd, hm⟩ := any_some hc
  obtain ⟨rest, hm⟩ : ∃ rest, cd.mro = .ref C :: rest := by
    cases q : cd.mro with
    | nil => rw [q] at hm; cases hm
    | cons a r => rw [q] at hm; exact ⟨r, by rw [List.head?_cons] at hm; cases (beq_iff_eq.mp hm); rfl⟩
  simp only [binaryOp1]
  refine wpAny_bind (I.type.here (wpAny_bind (wpAny_typeOf hb (wpAny_bind ((fills_K X hcd hm hs).here ?_)))))
  have hne : (Value.ref C == Value.type T) = false := by simp
  simp only [hne, Bool.false_eq_true, if_false]
  refine wpAny_bind (wpAny_of_eq hfT ?_)
  simp only [Bool.and_self, if_true]
  refine wpAny_bind ((looks_subIn X hsub).here ?_)
  simp only [Bool.false_eq_true, if_false, pure_bind, Bool.not_false, Bool.and_self, if_true]
  refine wpAny_bind ?_
  unfold numberSlotInPython
  refine wpAny_bind ((looks_findIn X hs).here ?_)
  show wpAny (model prog w) A ((pure true : Sem Bool) >>= _) _ _ _
  refine wpAny_bind (wpAny_pure (wpAny_bind ((looks_findIn X hsr).here ?_)))
  have hcr : ∃ r : Bool, calledByName (.ref C) (dunderR nm) q = pure r := by
    rcases hq with rfl | ⟨g, rfl⟩
    · exact ⟨false, rfl⟩
    · exact ⟨true, rfl⟩
  obtain ⟨r, hcr⟩ := hcr
  refine wpAny_bind (wpAny_of_eq hcr ?_)
  rw [Bool.true_or, if_pos rfl]
  refine wpAny_pure ?_
  rw [if_pos rfl]
  show wpAny (model prog w) A ((pure false : Sem Bool) >>= _) _ _ _
  refine wpAny_bind (wpAny_pure ?_)
  rw [if_pos (show (!false) = true from rfl)]
  refine wpAny_bind (wpAny_of_eq hr.lookup ?_)
  refine wpAny_bind (m := tryMethod (.ref x) _ b) ?_
  unfold tryMethod
  refine wpAny_bind (special_fn X I hs (beq_iff_eq.mp hf) (wpAny_mono h (fun v s' hv => ?_) fun _ _ e => e))
  cases v <;> first | exact hv.elim | exact wpAny_pure (wpAny_pure hv)
theorem lbinop_K {op : Operator} {b : Value} {T idr : String} {q : Option Value} {Q : Value → Shared → Prop} (F : Fr h₀ L s.heap m) (X₀ : K.In h₀) (I : InstAt s.heap x ox C od) (hc : selfFirst K C = true)
    (hb : s.TypeIs b T) (hfT : fillsNumberSlot (.type T) op.info.2 = pure true) (hsub : subIn K (.type T) (.ref C) = some false) (hr : Slot T (dunderR op.info.2) idr)
    (hs : findIn K (.ref C) (PySem.dunder op.info.2) = some (some (.ref f))) (hf : isFn K (.ref f) = true) (hsr : findIn K (.ref C) (dunderR op.info.2) = some q)
    (hq : q = none ∨ ∃ g, q = some (.ref g))
    (h : wpAny (model prog w) A (call (.ref f) [.ref x, b]) (PySem.W.CmpBack Q) E s) : wpAny (model prog w) A (binaryOp op (.ref x) b) Q E s := by
  rcases hi : op.info with ⟨sym, nm⟩
  rw [hi] at hfT hr hs hsr
  simp only [binaryOp, hi]
  refine wpAny_holding ?_
  refine wpAny_bind (lbinop1_K F X₀ I hc hb hfT hsub hr hs hf hsr hq (wpAny_mono h (fun v' s₂ h₂ => ?_) fun _ _ x => x))
  cases v' <;> first | exact h₂.elim | exact wpAny_pure h₂
end
end OL

namespace OL
open PySem PySem.Spec PyProof.Rows L2
section
variable {X : Cx} {CX : CXT} {k : Nat} {C f : Addr} {fd : FuncData} {ps : List Str} {sp : Sp} {E : XK}

theorem not_ni {v : V} {u : Value} (r : RelV v u) : u ≠ .notImplemented := by
  intro e
  subst e
  cases v with
  | non => cases (show Value.notImplemented = Value.none from r)
  | bl b => cases (show Value.notImplemented = Value.bool b from r)
  | int i => obtain ⟨t, e⟩ := (show ∃ t, Value.notImplemented = Value.int i t from r); cases e
  | str x => obtain ⟨t, e⟩ := (show ∃ t, Value.notImplemented = Value.str x t from r); cases e
  | byt b => obtain ⟨t, e⟩ := (show ∃ t, Value.notImplemented = Value.bytes b t from r); cases e
  | flt b => obtain ⟨t, e⟩ := (show ∃ t, Value.notImplemented = Value.float b t from r); cases e
  | ref a => cases (show Value.notImplemented = Value.ref a from r)
  | ty n => cases (show Value.notImplemented = Value.type n from r)

/-- what the special method's run is wanted to leave: no NotImplemented -/
theorem back_ep {pins : List (Addr × Obj)} {σ : L2.St} {Q : VK} {u : Value} {s' : Shared} (h : EP X pins σ Q u s') : PySem.W.CmpBack (EP X pins σ Q) u s' := by
  obtain ⟨v, H', I', r, q⟩ := h
  have e := not_ni r
  cases u <;> first | exact absurd rfl e | exact ⟨v, H', I', r, q⟩

/-- i op o: o an instance of the class at C whose reflected method answers -/
def rOwnR (C : Addr) (sp : Sp) (E : XK) : R2 := fun x y H Q => ∃ i a dx fs, x = .int i ∧ y = .ref a ∧ H a = some (.ins C dx fs) ∧ sp [.ref a, .int i] H Q E
/-- o op i -/
def rOwnL (C : Addr) (sp : Sp) (E : XK) : R2 := fun x y H Q => ∃ i a dx fs, x = .ref a ∧ y = .int i ∧ H a = some (.ins C dx fs) ∧ sp [.ref a, .int i] H Q E

/-- what the written part says of a class with reflected methods -/
structure RefC (K : PySem.W.Frag) (C : Addr) : Prop where
  sf : PySem.W.selfFirst K C = true
  si : PySem.W.subIn K (.ref C) (.type "int") = some false
  is : PySem.W.subIn K (.type "int") (.ref C) = some false

theorem op_ownR_aux {op : Operator} {idl : String} (R : RefC X.K C) (F : FnOk X.prog X.w X.K X.mg X.base CX k f fd ps sp) (hr : Room k X.A) (b : Binds X.K fd ps []) (hx : Passes CX X E)
    (hs : PySem.W.findIn X.K (.ref C) (dunderR op.info.2) = some (some (.ref f))) (hf : PySem.W.isFn X.K (.ref f) = true)
    (hl : PySem.W.findIn X.K (.ref C) (PySem.dunder op.info.2) = some none ∨ ∃ g, PySem.W.findIn X.K (.ref C) (PySem.dunder op.info.2) = some (some (.ref g)))
    (hfT : fillsNumberSlot (.type "int") op.info.2 = pure true) (hsl : Slot "int" (PySem.dunder op.info.2) idl)
    (dec : ∀ {s : Shared} {x : Addr} {ox : Obj} {od : Option Obj} {i : Int} {t : Tok} {Q : Value → Shared → Prop}, PySem.W.InstAt s.heap x ox C od → ox.data = .plain → (∀ tk, Q .notImplemented { s with toks := tk }) →
      wpAny (model X.prog X.w) X.A (call (.builtin idl) [.int i t, .ref x]) Q X.xe s) : OpR X (binaryOp op) (rOwnR C sp E) := by
  intro pins s σ H x y v u Q I rx ry h
  obtain ⟨i, a, dx, fs, rfl, rfl, ha, q⟩ := h
  obtain ⟨t, rfl⟩ := (show ∃ t, v = Value.int i t from rx)
  cases (show u = Value.ref a from ry)
  obtain ⟨mA, O, _⟩ := ins_get I.hok ha
  obtain ⟨od, J, _⟩ := O.look
  obtain ⟨m, hF⟩ := I.fr
  refine rbinop_K hF I.ok.mod.kin J R.sf (fun cd rest hcd hm => ?_) (typeIs_int s i t) hfT R.si hsl hs hf (dec J rfl fun tk => ⟨rfl, rfl, ?_⟩)
  · rcases hl with h0 | ⟨g, h0⟩
    · exact fillsR_K I.kIn hcd hm h0 hs
    · exact PySem.W.fills_K I.kIn hcd hm h0
  · refine wpAny_mono (run_fn (us := [.ref a, .int i t]) (vs := [.ref a, .int i]) F hr b .nil hx (I.tok tk) (.cons rfl (.cons ⟨t, rfl⟩ .nil)) (by rw [List.append_nil]; exact q)) (fun w s' z => back_ep z) fun _ _ z => z
theorem op_modR (R : RefC X.K C) (F : FnOk X.prog X.w X.K X.mg X.base CX k f fd ps sp) (hr : Room k X.A) (b : Binds X.K fd ps []) (hx : Passes CX X E)
    (hs : PySem.W.findIn X.K (.ref C) "__rmod__" = some (some (.ref f))) (hf : PySem.W.isFn X.K (.ref f) = true) (hl : PySem.W.findIn X.K (.ref C) "__mod__" = some none) : OpR X (binaryOp .Mod) (rOwnR C sp E) :=
  op_ownR_aux (op := .Mod) R F hr b hx hs hf (.inl hl) PySem.F.fills_int_mod PySem.F.slot_int_mod fun J hd q => int_mod_inst J hd q
theorem op_floordivR (R : RefC X.K C) (F : FnOk X.prog X.w X.K X.mg X.base CX k f fd ps sp) (hr : Room k X.A) (b : Binds X.K fd ps []) (hx : Passes CX X E)
    (hs : PySem.W.findIn X.K (.ref C) "__rfloordiv__" = some (some (.ref f))) (hf : PySem.W.isFn X.K (.ref f) = true) (hl : PySem.W.findIn X.K (.ref C) "__floordiv__" = some none) : OpR X (binaryOp .FloorDiv) (rOwnR C sp E) :=
  op_ownR_aux (op := .FloorDiv) R F hr b hx hs hf (.inl hl) PySem.F.fills_int_floordiv PySem.F.slot_int_floordiv fun J hd q => int_floordiv_inst J hd q
theorem op_mulR {g : Addr} (R : RefC X.K C) (F : FnOk X.prog X.w X.K X.mg X.base CX k f fd ps sp) (hr : Room k X.A) (b : Binds X.K fd ps []) (hx : Passes CX X E)
    (hs : PySem.W.findIn X.K (.ref C) "__rmul__" = some (some (.ref f))) (hf : PySem.W.isFn X.K (.ref f) = true) (hl : PySem.W.findIn X.K (.ref C) "__mul__" = some (some (.ref g))) : OpR X (binaryOp .Mult) (rOwnR C sp E) :=
  op_ownR_aux (op := .Mult) R F hr b hx hs hf (.inr ⟨g, hl⟩) PySem.F.fills_int_mul PySem.F.slot_int_mul fun J hd q => int_mul_inst J hd q
theorem op_mulL {g : Addr} (R : RefC X.K C) (F : FnOk X.prog X.w X.K X.mg X.base CX k f fd ps sp) (hr : Room k X.A) (b : Binds X.K fd ps []) (hx : Passes CX X E)
    (hs : PySem.W.findIn X.K (.ref C) "__mul__" = some (some (.ref f))) (hf : PySem.W.isFn X.K (.ref f) = true) (hl : PySem.W.findIn X.K (.ref C) "__rmul__" = some (some (.ref g))) : OpR X (binaryOp .Mult) (rOwnL C sp E) := by
  intro pins s σ H x y v u Q I rx ry h
  obtain ⟨i, a, dx, fs, rfl, rfl, ha, q⟩ := h
  obtain ⟨t, rfl⟩ := (show ∃ t, u = Value.int i t from ry)
  cases (show v = Value.ref a from rx)
  obtain ⟨mA, O, _⟩ := ins_get I.hok ha
  obtain ⟨od, J, _⟩ := O.look
  obtain ⟨m, hF⟩ := I.fr
  refine lbinop_K (op := .Mult) hF I.ok.mod.kin J R.sf (typeIs_int s i t) PySem.F.fills_int_mul R.is PySem.F.slot_int_rmul hs hf hl (.inr ⟨g, rfl⟩) ?_
  exact wpAny_mono (run_fn (us := [.ref a, .int i t]) (vs := [.ref a, .int i]) F hr b .nil hx I (.cons rfl (.cons ⟨t, rfl⟩ .nil)) (by rw [List.append_nil]; exact q)) (fun w s' z => back_ep z) fun _ _ z => z

/-- o == p of two instances of one class with an own == -/
def rOwnEq (C : Addr) (sp : Sp) (E : XK) : R2 := fun x y H Q => ∃ a b dx dy fs gs, x = .ref a ∧ y = .ref b ∧ H a = some (.ins C dx fs) ∧ H b = some (.ins C dy gs) ∧ sp [.ref a, .ref b] H Q E
def rOwnNe (C : Addr) (sp : Sp) (E : XK) : R2 := fun x y H Q => ∃ a b dx dy fs gs, x = .ref a ∧ y = .ref b ∧ H a = some (.ins C dx fs) ∧ H b = some (.ins C dy gs) ∧ sp [.ref a, .ref b] H (fun v H' => ∃ r, v = .bl r ∧ Q (.bl (!r)) H') E
theorem op_eqOwn (F : FnOk X.prog X.w X.K X.mg X.base CX k f fd ps sp) (hr : Room k X.A) (b : Binds X.K fd ps []) (hx : Passes CX X E)
    (hs : PySem.W.findIn X.K (.ref C) "__eq__" = some (some (.ref f))) (hf : PySem.W.isFn X.K (.ref f) = true) : OpR X (compareOp .Eq) (rOwnEq C sp E) := by
  intro pins s σ H x y v u Q I rx ry h
  obtain ⟨a, b', dx, dy, fs, gs, rfl, rfl, ha, hb, q⟩ := h
  cases (show v = Value.ref a from rx)
  cases (show u = Value.ref b' from ry)
  obtain ⟨mA, O, _⟩ := ins_get I.hok ha
  obtain ⟨od, J, _⟩ := O.look
  obtain ⟨mB, O', _⟩ := ins_get I.hok hb
  obtain ⟨od', J', _⟩ := O'.look
  obtain ⟨m, hF⟩ := I.fr
  show wpAny (model X.prog X.w) X.A (richCompare .Eq _ _) _ _ _
  refine PySem.W.cmp_K (op := .Eq) (tb := .ref C) hr.units0 hF I.ok.mod.kin J J'.type (by simp [PySem.W.notFirst]) hs hf ?_
  exact wpAny_mono (run_fn (us := [.ref a, .ref b']) (vs := [.ref a, .ref b']) F hr b .nil hx I (.cons rfl (.cons rfl .nil)) (by rw [List.append_nil]; exact q)) (fun w s' z => back_ep z) fun _ _ z => z
/-- the callee runs, one deeper in a builtin -/
theorem run_fn_in1 {pins : List (Addr × Obj)} {σ : L2.St} {H : Hp} {s : Shared} {Q : VK} {us : List Value} {vs : List V} (F : FnOk X.prog X.w X.K X.mg X.base CX k f fd ps sp) (hr : Room (k + 1) X.A) (hb : Binds X.K fd ps []) (hx : Passes CX X E)
    (I : Inv X pins σ H s) (r : Vals vs us) (h : sp vs H Q E) : wpAny (model X.prog X.w) X.A.in1 (call (.ref f) us) (EP X pins σ Q) X.xe s := by
  have hl : (us ++ []).length = ps.length := by rw [List.append_nil, ← r.length]; exact F.len _ _ _ _ h
  have hb' := hb s us I.kIn hl
  rw [List.append_nil] at hb'
  refine wpAny_call (codeAny_mono (F.run X.A.in1 X.stack s H ⟨us, []⟩ us vs Q E hr.in1 I.env0.in1 hb' r h) fun r s' hq => ?_)
  cases r with
  | error e => exact hx pins σ H s e s' I hq
  | ok fl =>
    cases fl with
    | ret u => exact I.after hq
    | next => exact False.elim hq
    | brk => exact False.elim hq
    | cont => exact False.elim hq
theorem op_neOwn (F : FnOk X.prog X.w X.K X.mg X.base CX k f fd ps sp) (hr : Room (k + 1) X.A) (b : Binds X.K fd ps []) (hx : Passes CX X E)
    (hs : PySem.W.findIn X.K (.ref C) "__eq__" = some (some (.ref f))) (hf : PySem.W.isFn X.K (.ref f) = true)
    (hne : PySem.W.findIn X.K (.ref C) "__ne__" = some (some (.builtin "object.__ne__"))) (hmr : PySem.W.mroIn X.K C (.type "object") = some true) : OpR X (compareOp .NotEq) (rOwnNe C sp E) := by
  intro pins s σ H x y v u Q I rx ry h
  obtain ⟨a, b', dx, dy, fs, gs, rfl, rfl, ha, hb, q⟩ := h
  cases (show v = Value.ref a from rx)
  cases (show u = Value.ref b' from ry)
  obtain ⟨mA, O, _⟩ := ins_get I.hok ha
  obtain ⟨od, J, _⟩ := O.look
  obtain ⟨mB, O', _⟩ := ins_get I.hok hb
  obtain ⟨od', J', _⟩ := O'.look
  obtain ⟨m, hF⟩ := I.fr
  show wpAny (model X.prog X.w) X.A (richCompare .NotEq _ _) _ _ _
  refine ne_K (tb := .ref C) (by have := hr.units; omega) hF I.ok.mod.kin J J'.type (by simp [PySem.W.notFirst]) hne hmr hs hf ?_
  refine wpAny_mono (run_fn_in1 (us := [.ref a, .ref b']) (vs := [.ref a, .ref b']) F hr b hx I (.cons rfl (.cons rfl .nil)) q) (fun w s' z => ?_) fun _ _ z => z
  obtain ⟨v, H', I', r, c, e, q'⟩ := z
  subst e
  cases (show w = Value.bool c from r)
  exact ⟨c, rfl, .bl (!c), H', I', rfl, q'⟩
end
end OL
set_option Elab.async false
set_option linter.all false
set_option maxRecDepth 100000
set_option maxHeartbeats 1000000
namespace OL
open PySem PySem.Spec PyProof.Rows L2

/-! ### readings made weaker -/
theorem pe_imp {X : Cx} {e : Expr} {t t' : TE} (h : PE X e t) (i : ∀ σ H Q, t' σ H Q → t σ H Q) : PE X e t' := ⟨fun pins s σ H Q I q => h.run pins s σ H Q I (i σ H Q q)⟩

/-! ### what stands at the top: a def, a method, a class -/
structure DefT (K : PySem.W.Frag) (mg : Str → Option Value) (x : Str) (st : Stmt) (ps : List Str) : Prop where
  ex : ∃ f fd, Fun K x x st f fd ∧ mg x = some (.ref f) ∧ Binds K fd ps []
structure MethT (K : PySem.W.Frag) (C : Addr) (x qual : Str) (st : Stmt) (ps : List Str) : Prop where
  ex : ∃ f fd, Fun K x qual st f fd ∧ PySem.W.findIn K (.ref C) x = some (some (.ref f)) ∧ PySem.W.isFn K (.ref f) = true ∧ Binds K fd ps []
/-- a class of the text without special ways -/
structure ClsT (K : PySem.W.Frag) (mg : Str → Option Value) (x : Str) (C : Addr) : Prop where
  cl : Cls K C
  mkC : PySem.W.makesIn K C = true
  kp : PySem.W.keepIn K (.ref C) = true
  mgC : mg x = some (.ref C)

section
variable {P : Program} {w : World} {K : PySem.W.Frag} {mg : Str → Option Value} {base : Heap}
structure CalF (P : Program) (w : World) (K : PySem.W.Frag) (mg : Str → Option Value) (base : Heap) (k : Nat) (x : Str) (ps : List Str) (sp : Sp) : Prop where
  ex : ∃ f fd, FnOk P w K mg base CX0 k f fd ps sp ∧ mg x = some (.ref f) ∧ PySem.W.keepIn K (.ref f) = true ∧ Binds K fd ps []
structure MetF (P : Program) (w : World) (K : PySem.W.Frag) (mg : Str → Option Value) (base : Heap) (k : Nat) (C : Addr) (x : Str) (ps : List Str) (sp : Sp) : Prop where
  ex : ∃ f fd, FnOk P w K mg base CX0 k f fd ps sp ∧ PySem.W.findIn K (.ref C) x = some (some (.ref f)) ∧ PySem.W.isFn K (.ref f) = true ∧ PySem.W.keepIn K (.ref f) = true ∧ Binds K fd ps []
theorem DefT.ok {x : Str} {st : Stmt} {ps N : List Str} {k : Nat} {sp : Sp} (D : DefT K mg x st ps) (S : FnScope N ps (defScope st)) (len : ∀ vs H Q E, sp vs H Q E → vs.length = ps.length)
    (hbody : ∀ (f : Addr) (cdv : Value) (A : Around) (outer : List Env) (s : Shared) (H : Hp) (vs : List V) (Q : VK) (E : XK), Room k (A.deeper (envOfC x (defScope st) s.heap.objs.size f cdv)) → sp vs H Q E →
      ∃ t, PSs (cxOf CX0 P w K mg base N x (defScope st) f cdv A outer s H E).nox (defBody st) t ∧ t { nx := fun _ H' => Q .non H', rt := Q } (start N vs) H) : CalF P w K mg base (k + 1) x ps sp := by
  obtain ⟨f, fd, F, hm, b⟩ := D.ex
  exact ⟨f, fd, F.ok S len (hbody f), hm, F.kp, b⟩
theorem MethT.ok {C : Addr} {x qual : Str} {st : Stmt} {ps N : List Str} {k : Nat} {sp : Sp} (D : MethT K C x qual st ps) (S : FnScope N ps (defScope st)) (len : ∀ vs H Q E, sp vs H Q E → vs.length = ps.length)
    (hbody : ∀ (f : Addr) (cdv : Value) (A : Around) (outer : List Env) (s : Shared) (H : Hp) (vs : List V) (Q : VK) (E : XK), Room k (A.deeper (envOfC qual (defScope st) s.heap.objs.size f cdv)) → sp vs H Q E →
      ∃ t, PSs (cxOf CX0 P w K mg base N qual (defScope st) f cdv A outer s H E).nox (defBody st) t ∧ t { nx := fun _ H' => Q .non H', rt := Q } (start N vs) H) : MetF P w K mg base (k + 1) C x ps sp := by
  obtain ⟨f, fd, F, hm, hf, b⟩ := D.ex
  exact ⟨f, fd, F.ok S len (hbody f), hm, hf, F.kp, b⟩
end

section
variable {X : Cx} {j k : Nat} {C : Addr} {x m : Str} {ps : List Str} {sp : Sp} {p pos apos : Pos} {e o : Expr} {es : List Expr} {ta : TE} {t : TA}
theorem pe_f (c : CalF X.prog X.w X.K X.mg X.base k x ps sp) (hr : Room j X.A) (ha : PA X (e :: es) t) (hk : k ≤ j := by decide) (hg : Gl X x := by rfl)
    (hdb : (x == ("__debug__" : Str)) = false := by decide) (he : starEach (e :: es) X.env = (false, eval e X.env) :: starEach es X.env := by rfl) (hpl : (backTo pos (starEach es X.env)).any (·.1) = false := by rfl) :
    PE X (.Call (.Name x p) (e :: es) [] pos) (tCall sp [] E0 t) := by
  obtain ⟨f, fd, F, hm, kp, b⟩ := c.ex
  exact pe_call F (hr.mono hk) hg hm kp b .nil pass0 ha hdb he hpl
theorem pe_m {pl : Sem Bool} (c : MetF X.prog X.w X.K X.mg X.base k C m ps sp) (cl : Cls X.K C) (hr : Room j X.A) (he : PE X o ta) (ha : PA X (e :: es) t) (hk : k ≤ j := by decide)
    (hst : starEach (e :: es) X.env = (false, eval e X.env) :: starEach es X.env := by rfl) (hpl : (backTo pos (starEach es X.env)).any (·.1) = false := by rfl)
    (ht : eval (.Call (.Attribute o m apos) (e :: es) [] pos) X.env = (do
      let ov ← eval o X.env
      standAt apos.atName
      let (f, first) ← holding [ov] (getMethod ov m pl)
      callWith pos f first (backTo pos (starEach (e :: es) X.env)) (backToKw pos (keywordEach [] X.env))) := by rfl) :
    PE X (.Call (.Attribute o m apos) (e :: es) [] pos) (tMeth C m sp [] E0 ta t) := by
  obtain ⟨f, fd, F, hm, hf, kp, b⟩ := c.ex
  exact pe_meth (pl := pl) he cl ⟨hm, hf, kp⟩ F (hr.mono hk) b .nil pass0 ha hst hpl ht
theorem pe_m0 {pl : Sem Bool} (c : MetF X.prog X.w X.K X.mg X.base k C m ps sp) (cl : Cls X.K C) (hr : Room j X.A) (he : PE X o ta) (hk : k ≤ j := by decide)
    (ht : eval (.Call (.Attribute o m apos) [] [] pos) X.env = (do
      let ov ← eval o X.env
      standAt apos.atName
      let (f, first) ← holding [ov] (getMethod ov m pl)
      callWith pos f first (backTo pos (starEach [] X.env)) (backToKw pos (keywordEach [] X.env))) := by rfl) :
    PE X (.Call (.Attribute o m apos) [] [] pos) (tMeth C m sp [] E0 ta tNil) := by
  obtain ⟨f, fd, F, hm, hf, kp, b⟩ := c.ex
  exact pe_meth0 (pl := pl) he cl ⟨hm, hf, kp⟩ F (hr.mono hk) b .nil pass0 ht
/-- C(..) -/
theorem pe_n (c : MetF X.prog X.w X.K X.mg X.base k C "__init__" ps sp) (cl : ClsT X.K X.mg x C) (hr : Room j X.A) (ha : PA X (e :: es) t) (hk : k + 1 ≤ j := by decide) (hg : Gl X x := by rfl)
    (hdb : (x == ("__debug__" : Str)) = false := by decide) (he : starEach (e :: es) X.env = (false, eval e X.env) :: starEach es X.env := by rfl) (hpl : (backTo pos (starEach es X.env)).any (·.1) = false := by rfl) :
    PE X (.Call (.Name x p) (e :: es) [] pos) (tMake C sp [] E0 t) := by
  obtain ⟨f, fd, F, hm, hf, kp, b⟩ := c.ex
  exact pe_make ⟨cl.mkC, hm, hf, cl.kp⟩ F (hr.mono hk) hg cl.mgC b .nil pass0 ha hdb he hpl
theorem ow_mod (R : RefC X.K C) (c : MetF X.prog X.w X.K X.mg X.base k C "__rmod__" ps sp) (hr : Room j X.A) (hl : PySem.W.findIn X.K (.ref C) "__mod__" = some none) (hk : k ≤ j := by decide) : OpR X (binaryOp .Mod) (rOwnR C sp E0) := by
  obtain ⟨f, fd, F, hm, hf, kp, b⟩ := c.ex
  exact op_modR R F (hr.mono hk) b pass0 hm hf hl
theorem ow_fdiv (R : RefC X.K C) (c : MetF X.prog X.w X.K X.mg X.base k C "__rfloordiv__" ps sp) (hr : Room j X.A) (hl : PySem.W.findIn X.K (.ref C) "__floordiv__" = some none) (hk : k ≤ j := by decide) : OpR X (binaryOp .FloorDiv) (rOwnR C sp E0) := by
  obtain ⟨f, fd, F, hm, hf, kp, b⟩ := c.ex
  exact op_floordivR R F (hr.mono hk) b pass0 hm hf hl
theorem ow_mulR {ps' : List Str} {st qual} (R : RefC X.K C) (c : MetF X.prog X.w X.K X.mg X.base k C "__rmul__" ps sp) (hr : Room j X.A) (l : MethT X.K C "__mul__" qual st ps') (hk : k ≤ j := by decide) : OpR X (binaryOp .Mult) (rOwnR C sp E0) := by
  obtain ⟨f, fd, F, hm, hf, kp, b⟩ := c.ex
  obtain ⟨g, _, _, hg, _, _⟩ := l.ex
  exact op_mulR R F (hr.mono hk) b pass0 hm hf hg
theorem ow_mulL {ps' : List Str} {st qual} (R : RefC X.K C) (c : MetF X.prog X.w X.K X.mg X.base k C "__mul__" ps sp) (hr : Room j X.A) (l : MethT X.K C "__rmul__" qual st ps') (hk : k ≤ j := by decide) : OpR X (binaryOp .Mult) (rOwnL C sp E0) := by
  obtain ⟨f, fd, F, hm, hf, kp, b⟩ := c.ex
  obtain ⟨g, _, _, hg, _, _⟩ := l.ex
  exact op_mulL R F (hr.mono hk) b pass0 hm hf hg
theorem ow_eq (c : MetF X.prog X.w X.K X.mg X.base k C "__eq__" ps sp) (hr : Room j X.A) (hk : k ≤ j := by decide) : OpR X (compareOp .Eq) (rOwnEq C sp E0) := by
  obtain ⟨f, fd, F, hm, hf, kp, b⟩ := c.ex
  exact op_eqOwn F (hr.mono hk) b pass0 hm hf
theorem ow_ne (c : MetF X.prog X.w X.K X.mg X.base k C "__eq__" ps sp) (hr : Room j X.A) (hne : PySem.W.findIn X.K (.ref C) "__ne__" = some (some (.builtin "object.__ne__"))) (hmr : PySem.W.mroIn X.K C (.type "object") = some true) (hk : k + 1 ≤ j := by decide) : OpR X (compareOp .NotEq) (rOwnNe C sp E0) := by
  obtain ⟨f, fd, F, hm, hf, kp, b⟩ := c.ex
  exact op_neOwn F (hr.mono hk) b pass0 hm hf hne hmr
end

/-! ### a, b, c = x, y, z -/
section
variable {X : Cx}
def tPar3 (i j l : Nat) (ta : TA) : TS := fun D σ H => ta σ H fun vs H1 => ∃ v w u, vs = [v, w, u] ∧ D.nx (((σ.set i (some v)).set j (some w)).set l (some u)) H1
theorem ps_par3 {i j l : Nat} {x y z : Str} {a b c : Expr} {ta : TA} {px py pz pt pos : Pos} {kt k2 pt2} (hc : X.calm = true) (hN : X.N.Nodup) (hi : X.N[i]? = some x) (hj : X.N[j]? = some y) (hl : X.N[l]? = some z) (hij : i ≠ j) (hil : i ≠ l) (hjl : j ≠ l)
    (hx : X.env.scope.names.lookup x = some .local) (hy : X.env.scope.names.lookup y = some .local) (hz : X.env.scope.names.lookup z = some .local) (ha : PA X [a, b, c] ta)
    (hw : swappedStores [.Tuple [.Name x px, .Name y py, .Name z pz] kt pt] (.Tuple [a, b, c] k2 pt2) X.env = pure (some [x, y, z]))
    (hs : swapsWithSole [.Tuple [.Name x px, .Name y py, .Name z pz] kt pt] (.Tuple [a, b, c] k2 pt2) pos.line X.env = pure false := by rfl) :
    PS X (.Assign [.Tuple [.Name x px, .Name y py, .Name z pz] kt pt] (.Tuple [a, b, c] k2 pt2) pos) (tPar3 i j l ta) := by
  refine ⟨fun pins s σ H D I h => ?_⟩
  rw [exec_Assign_arm]
  refine wpAny_bind (wpAny_standAt ?_)
  rw [hs]
  refine wpAny_bind (wpAny_pure ?_)
  rw [if_neg (by decide)]
  refine wpAny_bind (Tuple_ (thn (ha.run _ pins s σ H _ I h) fun us s1 ⟨vs, H1, I1, r1, q1⟩ => ?_))
  obtain ⟨v, v2, v3, e1, q1⟩ := q1
  subst e1
  obtain ⟨u1, u2, u3, rfl, rv, rv2, rv3⟩ : ∃ u1 u2 u3, us = [u1, u2, u3] ∧ RelV v u1 ∧ RelV v2 u2 ∧ RelV v3 u3 := by
    cases r1 with
    | cons p q =>
      cases q with
      | cons p' q' =>
        cases q' with
        | cons p'' q'' =>
          cases q''
          exact ⟨_, _, _, rfl, p, p', p''⟩
  refine wpAny_newObj_type ?_ (by show 3 ≤ sizeLine; decide)
  have I2 : Inv X pins σ H1 { s1 with heap := s1.heap.push { cls := .type "tuple", data := .seq [u1, u2, u3].toArray } } := I1.kept (t' := s1.toks) fun b o e => Heap.get?_push_of_some _ e
  rw [hw]
  refine wpAny_bind (wpAny_pure ?_)
  show wpAny (model X.prog X.w) X.A (do rule "assign.swapped-stores"; let items ← unpackItems (.ref s1.heap.objs.size) 3 none; assignInOrder [fun v => bindName X.env z v, fun v => bindName X.env y v, fun v => bindName X.env x v] items.reverse; pure Flow.next) _ _ _
  refine wpAny_bind (wpAny_rule (wpAny_bind (unpackItems_tuple (items := #[u1, u2, u3]) (I.ok.hd hc) (IsTup.new s1.heap _) fun h' hx' => ?_)))
  have I3 := I2.kept (h' := h') (t' := s1.toks) fun b o e => hx' b o (Nat.ne_of_lt (Heap.lt_size e)) e
  show wpAny _ _ (assignInOrder [fun v => bindName X.env z v, fun v => bindName X.env y v, fun v => bindName X.env x v] [u3, u2, u1] >>= fun _ => pure Flow.next) _ _ _
  refine wpAny_bind (assignInOrder_cons (wpAny_bindName (store_ok I3 hN hl (.inl hz) rv3 (fun s2 I4 => ?_) (.inr hz))))
  refine assignInOrder_cons (wpAny_bindName (store_ok I4 hN hj (.inl hy) rv2 (fun s3 I5 => ?_) (.inr hy)))
  refine assignInOrder_cons (wpAny_bindName (store_ok I5 hN hi (.inl hx) rv (fun s4 I6 => assignInOrder_nil (wpAny_pure ?_)) (.inr hx)))
  have e2 : (((σ.set l (some v3)).set j (some v2)).set i (some v)) = (((σ.set i (some v)).set j (some v2)).set l (some v3)) := by
    rw [List.set_comm _ _ hjl.symm, List.set_comm _ _ hil.symm, List.set_comm _ _ hij.symm]
  rw [e2] at I6
  exact ⟨_, H1, I6, q1⟩
end
end OL

namespace OL
open PySem PySem.Spec PyProof.Rows L2
/-- a name of the module, by its value -/
def GlT (mg : Str → Option Value) (x : Str) (v : V) : Prop := ∃ u, mg x = some u ∧ RelV v u
theorem pe_gl {X : Cx} {x : Str} {pos : Pos} {v : V} (h : GlT X.mg x v) (hg : Gl X x := by rfl) (hd : (x == ("__debug__" : Str)) = false := by decide) : PE X (.Name x pos) (tC v) := by
  obtain ⟨u, hm, r⟩ := h
  exact pe_glob hg hm r hd
/-- what isinstance asks of an own class -/
structure IsT (K : PySem.W.Frag) (C : Addr) : Prop where
  ha : PySem.W.findIn K (.ref C) "__class__" = some (some (.builtin "object.__class__"))
  hn : PySem.W.specialIn K (.builtin "object.__class__") "__get__" = some (some (.builtin "getset_descriptor.__get__"))
  htk : PySem.W.takesIn K (.builtin "object.__class__") = some true
  hm : PySem.W.mroIn K C (.type "object") = some true
section
variable {K : PySem.W.Frag} {mg : Str → Option Value} {h : Heap} {f C : Addr} {x qual : Str} {st : Stmt} {ps : List Str} {oc kV dc pm cd ct : Value} {od an : Option Addr} {sl : Array (Option Value)}
theorem DefT.of (X : K.In h) (G : h.Ns mainGlobals mg) (a : PySem.W.nsIn K mainGlobals x = some (some (.ref f))) (l : K.lookup f = some ⟨oc, od, .func (PySem.W.fnOf x x (defArgs st) (defBody st) (defScope st) .none kV dc pm an cd ct), sl⟩)
    (c : PySem.W.codeIn K cd x = true) (k : PySem.W.keepIn K (.ref f) = true)
    (b : ∀ (kV doc pm : Value) (an : Option Addr) (cdv ct : Value) (us : List Value), us.length = ps.length → bindArgs (PySem.W.fnOf x x (defArgs st) (defBody st) (defScope st) .none kV doc pm an cdv ct) ⟨us, []⟩ = pure (ps.zip us)) : DefT K mg x st ps := by
  have F := fun_mk (st := st) l c k
  exact ⟨f, _, F, PySem.W.mg_of X G a, F.binds b⟩
theorem MethT.of (a : PySem.W.findIn K (.ref C) x = some (some (.ref f))) (i : PySem.W.isFn K (.ref f) = true) (l : K.lookup f = some ⟨oc, od, .func (PySem.W.fnOf x qual (defArgs st) (defBody st) (defScope st) .none kV dc pm an cd ct), sl⟩)
    (c : PySem.W.codeIn K cd qual = true) (k : PySem.W.keepIn K (.ref f) = true)
    (b : ∀ (kV doc pm : Value) (an : Option Addr) (cdv ct : Value) (us : List Value), us.length = ps.length → bindArgs (PySem.W.fnOf x qual (defArgs st) (defBody st) (defScope st) .none kV doc pm an cdv ct) ⟨us, []⟩ = pure (ps.zip us)) : MethT K C x qual st ps := by
  have F := fun_mk (st := st) l c k
  exact ⟨f, _, F, a, i, F.binds b⟩
theorem ClsT.of (X : K.In h) (G : h.Ns mainGlobals mg) (a : PySem.W.nsIn K mainGlobals x = some (some (.ref C))) (pg : PySem.W.plainGet K C Str.empty = true) (hd : PySem.W.hasDictIn K C = true) (po : PySem.W.plainOver K C = true)
    (sa : PySem.W.findIn K (.ref C) "__setattr__" = some (some (.builtin "object.__setattr__"))) (mk : PySem.W.makesIn K C = true) (kp : PySem.W.keepIn K (.ref C) = true) : ClsT K mg x C := ⟨⟨pg, hd, po, sa⟩, mk, kp, PySem.W.mg_of X G a⟩
theorem GlT.ofI {n : Int} {t : Tok} (X : K.In h) (G : h.Ns mainGlobals mg) (a : PySem.W.nsIn K mainGlobals x = some (some (.int n t))) : GlT mg x (.int n) := ⟨_, PySem.W.mg_of X G a, ⟨t, rfl⟩⟩
end
/-! ### what a store leaves as it was -/
def But (p : Addr) (H H' : Hp) : Prop := ∀ b o, H b = some o → b ≠ p → H' b = some o
theorem But.rfl' {p : Addr} {H : Hp} : But p H H := fun _ _ e _ => e
theorem But.trans {p : Addr} {H H1 H2 : Hp} (a : But p H H1) (b : But p H1 H2) : But p H H2 := fun c o e ne => b c o (a c o e ne) ne
theorem But.of {p : Addr} {H H' : Hp} (s : Same H H') : But p H H' := fun b o e _ => s b o e
theorem But.upd {p : Addr} {H : Hp} {o : HO} : But p H (upd H p o) := fun b u e ne => by rw [upd_ne ne]; exact e
theorem But.new {p l : Addr} {H : Hp} {o : HO} (h : H l = none) : But p H (L2.upd H l o) := fun b u e ne => by rw [upd_ne (ne_of_none e h)]; exact e
end OL

namespace OL
open PySem PySem.Spec PyProof.Rows L2
theorem kit_self {K : PySem.W.Frag} (t : Value) : PySem.W.kitOne K t t = some true := by
  unfold PySem.W.kitOne
  rw [if_pos (by simp)]
theorem kit_ii {K : PySem.W.Frag} : PySem.W.kitOne K (.type "int") (.type "int") = some true := kit_ty (a := "int") (b := "int") (r := true) (by decide +kernel)
theorem kit_ib {K : PySem.W.Frag} : PySem.W.kitOne K (.type "int") (.type "bool") = some false := kit_ty (a := "int") (b := "bool") (r := false) (by decide +kernel)
end OL

namespace OL
open PySem PySem.Spec PyProof.Rows L2
theorem iteD {c : Prop} [Decidable c] {A B : Prop} (hc : c) (h : A) : if decide c = true then A else B := by
  rw [if_pos (decide_eq_true hc)]
  exact h
theorem iteDF {c : Prop} [Decidable c] {A B : Prop} (hc : ¬ c) (h : B) : if decide c = true then A else B := by
  rw [if_neg (by rw [decide_eq_true_eq]; exact hc)]
  exact h
theorem iteN {b : Bool} {A B : Prop} (hb : b = true) (h : A) : if b = true then A else B := by
  rw [if_pos hb]
  exact h
theorem iteNF {b : Bool} {A B : Prop} (hb : b = false) (h : B) : if b = true then A else B := by
  rw [hb, if_neg Bool.false_ne_true]
  exact h
end OL

namespace OL
open PySem PySem.Spec PyProof.Rows L2
theorem dp_ints {K : PySem.W.Frag} {H : Hp} : ∀ ns : List Int, DpAll K H (ns.map V.int) (ns.map PyData.int)
  | [] => .nil
  | n :: r => .cons (.int n) (dp_ints r)
theorem shaped_ints (ns : List Int) : SeqAt.shaped (.list (ns.map PyData.int)) = true := by
  have h1 : ∀ ns : List Int, PyData.canLayAll0 (ns.map PyData.int) = true := by
    intro ns
    induction ns with
    | nil => rfl
    | cons a r ih => simp only [List.map_cons, PyData.canLayAll0, PyData.canLay0, ih, Bool.and_self]
  have h2 : ∀ ns : List Int, PyData.depthAll (ns.map PyData.int) = 0 := by
    intro ns
    induction ns with
    | nil => rfl
    | cons a r ih => simp only [List.map_cons, PyData.depthAll, PyData.depth, ih, Nat.max_self]
  unfold SeqAt.shaped
  simp only [PyData.canLay0, PyData.depth, h1, h2]
  decide
theorem eqv_nil (ns : List Int) : PyData.eqv (.list (ns.map PyData.int)) (.list []) = ns.isEmpty := by
  cases ns <;> simp [PyData.eqv, PyData.eqvAll]
theorem at_ex {ns : List Int} {i : Int} (h0 : 0 ≤ i) (h : i < (ns.map V.int).length) : ∃ c, atI (ns.map V.int) i = some (.int c) := by
  rw [List.length_map] at h
  obtain ⟨j, rfl⟩ : ∃ j : Nat, i = (j : Int) := ⟨i.toNat, by omega⟩
  have hj : j < ns.length := by omega
  refine ⟨ns[j], atI_nat ?_⟩
  rw [List.getElem?_map]
  simp [hj]
theorem at_ex' {xs : List V} {i : Int} (h0 : 0 ≤ i) (h : i < xs.length) : ∃ v, v ∈ xs ∧ atI xs i = some v := by
  obtain ⟨j, rfl⟩ : ∃ j : Nat, i = (j : Int) := ⟨i.toNat, by omega⟩
  have hj : j < xs.length := by omega
  refine ⟨xs[j], List.getElem_mem hj, atI_nat ?_⟩
  simp [hj]
theorem mul_bnd {a b A B : Int} (ha : 0 ≤ a ∧ a ≤ A) (hb : 0 ≤ b ∧ b ≤ B) : 0 ≤ a * b ∧ a * b ≤ A * B :=
  ⟨Int.mul_nonneg ha.1 hb.1, Int.mul_le_mul ha.2 hb.2 hb.1 (Int.le_trans ha.1 ha.2)⟩
end OL

namespace OL
open PySem PySem.Spec PyProof.Rows L2
theorem _root_.L2.SqL.small {K : PySem.W.Frag} {H : Hp} {a : Addr} {xs : List V} (h : SqL K H a xs) : True := trivial
theorem _root_.L2.SqL.but {K : PySem.W.Frag} {H H' : Hp} {p a : Addr} {xs : List V} (h : SqL K H a xs) (b : But p H H') (ne : a ≠ p) : SqL K H' a xs := by
  rcases h with (h | ⟨o, h⟩) | h
  · exact .inl (.inl (b _ _ h ne))
  · exact .inl (.inr ⟨o, b _ _ h ne⟩)
  · exact .inr h
end OL

namespace OL
open PySem PySem.Spec PyProof.Rows L2
theorem dec_int (i j : Int) : decide (V.int i = V.int j) = decide (i = j) := by
  by_cases h : i = j
  · subst h
    simp
  · have : ¬ V.int i = V.int j := fun e => h (by injection e)
    simp [h, this]
theorem op_eqi {X : Cx} : OpR X (compareOp .Eq) (rI0 fun i j => .bl (decide (i = j))) := by
  intro pins s σ H x y v u Q I rx ry h
  obtain ⟨i, j, rfl, rfl, q⟩ := h
  exact op_eq pins s σ H _ _ v u Q I rx ry ⟨rfl, by rw [dec_int]; exact q⟩
theorem op_nei {X : Cx} : OpR X (compareOp .NotEq) (rI0 fun i j => .bl (!decide (i = j))) := by
  intro pins s σ H x y v u Q I rx ry h
  obtain ⟨i, j, rfl, rfl, q⟩ := h
  exact op_ne pins s σ H _ _ v u Q I rx ry ⟨rfl, by rw [dec_int]; exact q⟩
end OL

namespace OL
open PySem PySem.Spec PyProof.Rows L2
/-- C(..) as a call with a promise of its own: the new object is what __init__ left -/
def tNew (spm : Sp) (t : TA) : TE := fun σ H Q => t σ H fun vs H1 => spm vs H1 Q E0
structure NewF (P : Program) (w : World) (K : PySem.W.Frag) (mg : Str → Option Value) (base : Heap) (k : Nat) (x : Str) (C : Addr) (spm : Sp) : Prop where
  ex : ∃ ps sp, MetF P w K mg base k C "__init__" ps sp ∧ ClsT K mg x C ∧
    ∀ vs H Q, spm vs H Q E0 → ∀ p dx, H p = none → H dx = none → dx ≠ p → sp (.ref p :: vs) (upd (upd H dx (.own p)) p (.ins C dx [])) (fun v H2 => v = .non ∧ Q (.ref p) H2) E0
theorem pe_w {X : Cx} {j k : Nat} {C : Addr} {x : Str} {spm : Sp} {p pos : Pos} {e : Expr} {es : List Expr} {t : TA} (c : NewF X.prog X.w X.K X.mg X.base k x C spm) (hr : Room j X.A) (ha : PA X (e :: es) t) (hk : k + 1 ≤ j := by decide) (hg : Gl X x := by rfl)
    (hdb : (x == ("__debug__" : Str)) = false := by decide) (he : starEach (e :: es) X.env = (false, eval e X.env) :: starEach es X.env := by rfl) (hpl : (backTo pos (starEach es X.env)).any (·.1) = false := by rfl) :
    PE X (.Call (.Name x p) (e :: es) [] pos) (tNew spm t) := by
  obtain ⟨ps, sp, m, cl, imp⟩ := c.ex
  obtain ⟨f, fd, F, hm, hf, kp, b⟩ := m.ex
  refine ⟨fun pins s σ H Q I h => ?_⟩
  refine wpAny_Call_Name_kw (ld_glob I hg cl.mgC ?_ hdb)
  refine PySem.W.callWith_K (h₀ := X.base) I.ok.mod.kin cl.kp (thn (ha.run pos pins s σ H _ I h) fun us s1 ⟨vs, H1, I1, r, q⟩ => ⟨I1.kIn, ?_⟩) he hpl
  exact run_make (dvs := []) ⟨cl.mkC, hm, hf, cl.kp⟩ F (hr.mono hk) b .nil pass0 I1 r (by
    intro x dx h1 h2 h3
    rw [List.append_nil]
    exact imp vs H1 Q q x dx h1 h2 h3)
end OL
namespace OLP
open PySem PySem.Spec PyProof.Rows L2 OL
def top (i : Nat) : Stmt := PySem.Challenge.pw_onelongturn_k04_whole_days_that_come_rou.main.body.getD i (.Pass ⟨0, 0, 0, 0⟩)
abbrev s_is_int : Stmt := top 8
theorem sc_is_int : FnScope ["value"] ["value"] (defScope s_is_int) := ⟨rfl, rfl, rfl, by decide +kernel, rfl, by decide +kernel, by decide +kernel⟩
abbrev s_is_number_from_one : Stmt := top 9
theorem sc_is_number_from_one : FnScope ["value"] ["value"] (defScope s_is_number_from_one) := ⟨rfl, rfl, rfl, by decide +kernel, rfl, by decide +kernel, by decide +kernel⟩
abbrev s_is_moment : Stmt := top 10
theorem sc_is_moment : FnScope ["value"] ["value"] (defScope s_is_moment) := ⟨rfl, rfl, rfl, by decide +kernel, rfl, by decide +kernel, by decide +kernel⟩
abbrev s_Day___init__ : Stmt := inClass (top 12) 1
theorem sc_Day___init__ : FnScope ["self", "length"] ["self", "length"] (defScope s_Day___init__) := ⟨rfl, rfl, rfl, by decide +kernel, rfl, by decide +kernel, by decide +kernel⟩
abbrev s_Day___rmod__ : Stmt := inClass (top 12) 2
theorem sc_Day___rmod__ : FnScope ["self", "other"] ["self", "other"] (defScope s_Day___rmod__) := ⟨rfl, rfl, rfl, by decide +kernel, rfl, by decide +kernel, by decide +kernel⟩
abbrev s_Day___rfloordiv__ : Stmt := inClass (top 12) 3
theorem sc_Day___rfloordiv__ : FnScope ["self", "other"] ["self", "other"] (defScope s_Day___rfloordiv__) := ⟨rfl, rfl, rfl, by decide +kernel, rfl, by decide +kernel, by decide +kernel⟩
abbrev s_Day_forward : Stmt := inClass (top 12) 4
theorem sc_Day_forward : FnScope ["self", "a", "b"] ["self", "a", "b"] (defScope s_Day_forward) := ⟨rfl, rfl, rfl, by decide +kernel, rfl, by decide +kernel, by decide +kernel⟩
abbrev s_Day___mul__ : Stmt := inClass (top 12) 5
theorem sc_Day___mul__ : FnScope ["self", "other"] ["self", "other"] (defScope s_Day___mul__) := ⟨rfl, rfl, rfl, by decide +kernel, rfl, by decide +kernel, by decide +kernel⟩
abbrev s_Day___rmul__ : Stmt := inClass (top 12) 6
theorem sc_Day___rmul__ : FnScope ["self", "other"] ["self", "other"] (defScope s_Day___rmul__) := ⟨rfl, rfl, rfl, by decide +kernel, rfl, by decide +kernel, by decide +kernel⟩
abbrev s_Day___eq__ : Stmt := inClass (top 12) 8
theorem sc_Day___eq__ : FnScope ["self", "other"] ["self", "other"] (defScope s_Day___eq__) := ⟨rfl, rfl, rfl, by decide +kernel, rfl, by decide +kernel, by decide +kernel⟩
abbrev s_times_as_long : Stmt := top 13
theorem sc_times_as_long : FnScope ["day", "k"] ["day", "k"] (defScope s_times_as_long) := ⟨rfl, rfl, rfl, by decide +kernel, rfl, by decide +kernel, by decide +kernel⟩
abbrev s_law_pen : Stmt := top 15
theorem sc_law_pen : FnScope ["script"] ["script"] (defScope s_law_pen) := ⟨rfl, rfl, rfl, by decide +kernel, rfl, by decide +kernel, by decide +kernel⟩
abbrev s_law_draw : Stmt := top 16
theorem sc_law_draw : FnScope ["pen", "many", "digit", "spot", "cell", "great", "blent"] ["pen", "many"] (defScope s_law_draw) := ⟨rfl, rfl, rfl, by decide +kernel, rfl, by decide +kernel, by decide +kernel⟩
abbrev s_law_pick : Stmt := top 17
theorem sc_law_pick : FnScope ["pen", "some"] ["pen", "some"] (defScope s_law_pick) := ⟨rfl, rfl, rfl, by decide +kernel, rfl, by decide +kernel, by decide +kernel⟩
abbrev s_law_moment : Stmt := top 18
theorem sc_law_moment : FnScope ["pen", "size", "found"] ["pen", "size"] (defScope s_law_moment) := ⟨rfl, rfl, rfl, by decide +kernel, rfl, by decide +kernel, by decide +kernel⟩
abbrev s_law_waits_right : Stmt := top 19
theorem sc_law_waits_right : FnScope ["pen", "day", "size", "a", "b", "c", "there", "back", "days"] ["pen", "day", "size"] (defScope s_law_waits_right) := ⟨rfl, rfl, rfl, by decide +kernel, rfl, by decide +kernel, by decide +kernel⟩
abbrev s_law_long_right : Stmt := top 20
theorem sc_law_long_right : FnScope ["pen", "day", "size", "many", "long", "turn", "x", "y", "wait"] ["pen", "day", "size", "many"] (defScope s_law_long_right) := ⟨rfl, rfl, rfl, by decide +kernel, rfl, by decide +kernel, by decide +kernel⟩
abbrev s_law : Stmt := top 21
theorem sc_law : FnScope ["script", "pen", "turn", "size", "many", "some"] ["script"] (defScope s_law) := ⟨rfl, rfl, rfl, by decide +kernel, rfl, by decide +kernel, by decide +kernel⟩
structure Txt (K : PySem.W.Frag) (mg : Str → Option Value) (ADay : Addr) : Prop where
  d_is_int : DefT K mg "is_int" s_is_int ["value"]
  d_is_number_from_one : DefT K mg "is_number_from_one" s_is_number_from_one ["value"]
  d_is_moment : DefT K mg "is_moment" s_is_moment ["value"]
  m_Day___init__ : MethT K ADay "__init__" "Day.__init__" s_Day___init__ ["self", "length"]
  m_Day___rmod__ : MethT K ADay "__rmod__" "Day.__rmod__" s_Day___rmod__ ["self", "other"]
  m_Day___rfloordiv__ : MethT K ADay "__rfloordiv__" "Day.__rfloordiv__" s_Day___rfloordiv__ ["self", "other"]
  m_Day_forward : MethT K ADay "forward" "Day.forward" s_Day_forward ["self", "a", "b"]
  m_Day___mul__ : MethT K ADay "__mul__" "Day.__mul__" s_Day___mul__ ["self", "other"]
  m_Day___rmul__ : MethT K ADay "__rmul__" "Day.__rmul__" s_Day___rmul__ ["self", "other"]
  m_Day___eq__ : MethT K ADay "__eq__" "Day.__eq__" s_Day___eq__ ["self", "other"]
  d_times_as_long : DefT K mg "times_as_long" s_times_as_long ["day", "k"]
  d_law_pen : DefT K mg "_law_pen" s_law_pen ["script"]
  d_law_draw : DefT K mg "_law_draw" s_law_draw ["pen", "many"]
  d_law_pick : DefT K mg "_law_pick" s_law_pick ["pen", "some"]
  d_law_moment : DefT K mg "_law_moment" s_law_moment ["pen", "size"]
  d_law_waits_right : DefT K mg "_law_waits_right" s_law_waits_right ["pen", "day", "size"]
  d_law_long_right : DefT K mg "_law_long_right" s_law_long_right ["pen", "day", "size", "many"]
  d_law : DefT K mg "law" s_law ["script"]
  C_Day : ClsT K mg "Day" ADay
  R_Day : RefC K ADay
  no_Day___mod__ : PySem.W.findIn K (.ref ADay) "__mod__" = some none
  no_Day___floordiv__ : PySem.W.findIn K (.ref ADay) "__floordiv__" = some none
  ne_Day : PySem.W.findIn K (.ref ADay) "__ne__" = some (some (.builtin "object.__ne__"))
  ob_Day : PySem.W.mroIn K ADay (.type "object") = some true
  I_Day : IsT K ADay
  na_Day_length : PySem.W.findIn K (.ref ADay) "length" = some none
  g_MOST : GlT mg "MOST" (.int 1000000000000)
  g_BEYOND_MOMENTS : GlT mg "BEYOND_MOMENTS" (.int (10 ^ 60))
  b_isinstance : mg "isinstance" = none
  b_int : mg "int" = none
  b_bool : mg "bool" = none
  b_list : mg "list" = none
  b_len : mg "len" = none
  b_abs : mg "abs" = none
  b_range : mg "range" = none

local macro_rules | `(tactic| walk_at "ol") => `(tactic| repeat (first
  | refine ⟨_, rfl, ?_⟩
  | refine ⟨_, _, rfl, rfl, ?_⟩
  | refine iteT ?_
  | refine iteF ?_
  | refine iteD (by omega) ?_
  | refine iteDF (by omega) ?_
  | refine Or.inl ⟨_, rfl, ?_⟩
  | refine ⟨_, _, rfl, rfl, (by first | (refine Or.inl ⟨?_, ?_⟩ <;> omega) | (refine Or.inr ⟨?_, ?_⟩ <;> omega) | (show (0 : Int) < _; omega) | (refine ⟨?_, ?_⟩ <;> omega)), ?_⟩))
/-! ### days -/
def dayF (n : Int) : List (Str × V) := putF "length" (.int n) []
theorem dayF_len (n : Int) : (dayF n).lookup ("length" : Str) = some (.int n) := by
  unfold dayF
  rw [lookup_putF, if_pos rfl]
theorem dayF_no (n : Int) {m : Str} (h : ¬ m = "length") : (dayF n).lookup m = none := by
  unfold dayF
  rw [lookup_putF, if_neg h]
  all_goals rfl
def DayAt (C : Addr) (H : Hp) (a : Addr) (n : Int) : Prop := ∃ dx, H a = some (.ins C dx (dayF n))
theorem DayAt.but {C p a : Addr} {H H' : Hp} {n : Int} (d : DayAt C H a n) (b : But p H H') (ne : a ≠ p) : DayAt C H' a n := by
  obtain ⟨dx, h⟩ := d
  exact ⟨dx, b _ _ h ne⟩
theorem DayAt.same {C a : Addr} {H H' : Hp} {n : Int} (d : DayAt C H a n) (b : Same H H') : DayAt C H' a n := by
  obtain ⟨dx, h⟩ := d
  exact ⟨dx, b _ _ h⟩
/-! ### promises -/
def spIsInt : Sp := fun vs H Q _ => ∃ n, vs = [.int n] ∧ Q (.bl true) H
def spNum1 : Sp := fun vs H Q _ => ∃ n, vs = [.int n] ∧ Q (.bl (decide (1 ≤ n ∧ n ≤ 1000000000000))) H
def spMom : Sp := fun vs H Q _ => ∃ n, vs = [.int n] ∧ Q (.bl (decide (-(10 ^ 60) < n ∧ n < 10 ^ 60))) H
def spDayInit (C : Addr) : Sp := fun vs H Q _ => ∃ p dx n, vs = [.ref p, .int n] ∧ H p = some (.ins C dx []) ∧ (1 ≤ n ∧ n ≤ 1000000000000) ∧ ∀ H', DayAt C H' p n → But p H H' → Q .non H'
def spRmod (C : Addr) : Sp := fun vs H Q _ => ∃ p n x, vs = [.ref p, .int x] ∧ DayAt C H p n ∧ 0 < n ∧ (-(10 ^ 60) < x ∧ x < 10 ^ 60) ∧ Q (.int (x % n)) H
def spRfdiv (C : Addr) : Sp := fun vs H Q _ => ∃ p n x, vs = [.ref p, .int x] ∧ DayAt C H p n ∧ (0 < n ∧ n ≤ 1000000000000) ∧ (-(10 ^ 60) < x ∧ x < 10 ^ 60) ∧ Q (.int (x / n)) H
def spForward (C : Addr) : Sp := fun vs H Q _ => ∃ p n a b, vs = [.ref p, .int a, .int b] ∧ DayAt C H p n ∧ 0 < n ∧ (-(10 ^ 60) < a ∧ a < 10 ^ 60) ∧ (-(10 ^ 60) < b ∧ b < 10 ^ 60) ∧ Q (.int ((b - a) % n)) H
def spTimes (C : Addr) : Sp := fun vs H Q _ => ∃ p n k, vs = [.ref p, .int k] ∧ DayAt C H p n ∧ (1 ≤ n ∧ n ≤ 1000000000000) ∧ (1 ≤ n * k ∧ n * k ≤ 1000000000000) ∧ ∀ q H', H q = none → Same H H' → DayAt C H' q (n * k) → Q (.ref q) H'
def spDayEq (C : Addr) : Sp := fun vs H Q _ => ∃ a b n m, vs = [.ref a, .ref b] ∧ DayAt C H a n ∧ DayAt C H b m ∧ Q (.bl (decide (n = m))) H
section
variable {P : Program} {w : World} {K : PySem.W.Frag} {mg : Str → Option Value} {base : Heap} {ADay : Addr}
theorem c_is_int (T : Txt K mg ADay) : CalF P w K mg base 1 "is_int" ["value"] spIsInt := by
  refine T.d_is_int.ok sc_is_int (fun vs H Q E h => ?_) (fun f cdv A outer s H vs Q E hr h => ?_)
  · obtain ⟨n, rfl, _⟩ := h
    rfl
  · obtain ⟨n, rfl, q⟩ := h
    refine ⟨_, (pss_one (ps_ret (pe_and (pe_callB call_isi (by rfl) T.b_isinstance (by decide +kernel) (pa_cons (pv 0) (pa_cons (pe_bltn (v := .ty "int") rfl T.b_int (by decide +kernel) rfl) pa_nil))) (pe_one (pe_not (pe_callB call_isi (by rfl) T.b_isinstance (by decide +kernel) (pa_cons (pv 0) (pa_cons (pe_bltn (v := .ty "bool") rfl T.b_bool (by decide +kernel) rfl) pa_nil)))))))), ?_⟩
    refine ⟨_, rfl, _, _, _, _, _, rfl, .ty _, .base (.int _), kit_ii, ?_⟩
    refine ⟨_, rfl, iteT ?_⟩
    refine ⟨_, rfl, _, _, _, _, _, rfl, .ty _, .base (.int _), kit_ib, ?_⟩
    exact ⟨_, rfl, q⟩
theorem c_is_number_from_one (T : Txt K mg ADay) : CalF P w K mg base 2 "is_number_from_one" ["value"] spNum1 := by
  have c_is_int := c_is_int (P := P) (w := w) (base := base) T
  refine T.d_is_number_from_one.ok sc_is_number_from_one (fun vs H Q E h => ?_) (fun f cdv A outer s H vs Q E hr h => ?_)
  · obtain ⟨n, rfl, _⟩ := h
    rfl
  · obtain ⟨n, rfl, q⟩ := h
    refine ⟨_, (pss_one (ps_ret (pe_and (pe_f c_is_int hr (pa_cons (pv 0) pa_nil)) (pe_one (pe_chain op_le op_le pe_int (pv 0) (pe_gl T.g_MOST) ))))), ?_⟩
    refine ⟨_, rfl, _, rfl, ?_⟩
    refine ⟨_, rfl, iteT ?_⟩
    refine ⟨_, rfl, _, _, rfl, rfl, _, rfl, ?_⟩
    refine ite2 (fun h1 => ?_) (fun h1 => ?_)
    · rw [decide_eq_true_eq] at h1
      refine ⟨_, _, rfl, rfl, ?_⟩
      have e : decide (1 ≤ n ∧ n ≤ 1000000000000) = decide (n ≤ 1000000000000) := by simp [h1]
      rw [e] at q
      exact q
    · rw [decide_eq_true_eq] at h1
      have e : decide (1 ≤ n ∧ n ≤ 1000000000000) = false := by simp [h1]
      rw [e] at q
      exact q
theorem c_is_moment (T : Txt K mg ADay) : CalF P w K mg base 2 "is_moment" ["value"] spMom := by
  have c_is_int := c_is_int (P := P) (w := w) (base := base) T
  refine T.d_is_moment.ok sc_is_moment (fun vs H Q E h => ?_) (fun f cdv A outer s H vs Q E hr h => ?_)
  · obtain ⟨n, rfl, _⟩ := h
    rfl
  · obtain ⟨n, rfl, q⟩ := h
    refine ⟨_, (pss_one (ps_ret (pe_and (pe_f c_is_int hr (pa_cons (pv 0) pa_nil)) (pe_one (pe_chain op_lt op_lt (pe_un un_neg (pe_gl T.g_BEYOND_MOMENTS)) (pv 0) (pe_gl T.g_BEYOND_MOMENTS) ))))), ?_⟩
    refine ⟨_, rfl, _, rfl, ?_⟩
    refine ⟨_, rfl, iteT ?_⟩
    walk_at "ol"
    refine ite2 (fun h1 => ?_) (fun h1 => ?_)
    · rw [decide_eq_true_eq] at h1
      refine ⟨_, _, rfl, rfl, ?_⟩
      have e : decide (-(10 ^ 60) < n ∧ n < 10 ^ 60) = decide (n < 10 ^ 60) := by simp only [h1, true_and]
      rw [e] at q
      exact q
    · rw [decide_eq_true_eq] at h1
      have e : decide (-(10 ^ 60) < n ∧ n < 10 ^ 60) = false := by simp only [h1, false_and, decide_false]
      rw [e] at q
      exact q
theorem c_Day___init__ (T : Txt K mg ADay) : MetF P w K mg base 3 ADay "__init__" ["self", "length"] (spDayInit ADay) := by
  have c_is_number_from_one := c_is_number_from_one (P := P) (w := w) (base := base) T
  refine T.m_Day___init__.ok sc_Day___init__ (fun vs H Q E h => ?_) (fun f cdv A outer s H vs Q E hr h => ?_)
  · obtain ⟨p, dx, n, rfl, _⟩ := h
    rfl
  · obtain ⟨p, dx, n, rfl, hp, hn, k⟩ := h
    refine ⟨_, (pss_cons (ps_if (pt_not (pt_val (pe_f c_is_number_from_one hr (pa_cons (pv 1) pa_nil)))) (pss_one ps_never) pss_nil)
      (pss_one (ps_fld (pv 0) (pv 1) rfl))), ?_⟩
    refine ⟨_, rfl, _, rfl, _, rfl, ?_⟩
    rw [decide_eq_true hn]
    refine iteF ?_
    refine ⟨_, rfl, _, rfl, p, ADay, dx, [], rfl, hp, T.C_Day.cl, T.na_Day_length, (by show 0 < 1000; decide), ?_⟩
    exact k _ ⟨dx, upd_same⟩ But.upd
theorem c_Day___rmod__ (T : Txt K mg ADay) : MetF P w K mg base 3 ADay "__rmod__" ["self", "other"] (spRmod ADay) := by
  have c_is_moment := c_is_moment (P := P) (w := w) (base := base) T
  refine T.m_Day___rmod__.ok sc_Day___rmod__ (fun vs H Q E h => ?_) (fun f cdv A outer s H vs Q E hr h => ?_)
  · obtain ⟨p, n, x, rfl, _⟩ := h
    rfl
  · obtain ⟨p, n, x, rfl, ⟨dx, hd⟩, hn, hx, k⟩ := h
    refine ⟨_, (pss_cons (ps_if (pt_not (pt_val (pe_f c_is_moment hr (pa_cons (pv 1) pa_nil)))) (pss_one ps_never) pss_nil)
      (pss_one (ps_ret (pe_op op_mod (pv 1) (pe_fld (pv 0) rfl))))), ?_⟩
    refine ⟨_, rfl, _, rfl, _, rfl, ?_⟩
    rw [decide_eq_true hx]
    refine iteF ?_
    refine ⟨_, rfl, _, rfl, _, _, _, _, _, rfl, hd, T.C_Day.cl, T.na_Day_length, dayF_len _, ?_⟩
    exact ⟨_, _, rfl, rfl, hn, k⟩
theorem c_Day___rfloordiv__ (T : Txt K mg ADay) : MetF P w K mg base 3 ADay "__rfloordiv__" ["self", "other"] (spRfdiv ADay) := by
  have c_is_moment := c_is_moment (P := P) (w := w) (base := base) T
  refine T.m_Day___rfloordiv__.ok sc_Day___rfloordiv__ (fun vs H Q E h => ?_) (fun f cdv A outer s H vs Q E hr h => ?_)
  · obtain ⟨p, n, x, rfl, _⟩ := h
    rfl
  · obtain ⟨p, n, x, rfl, ⟨dx, hd⟩, hn, hx, k⟩ := h
    refine ⟨_, (pss_cons (ps_if (pt_not (pt_val (pe_f c_is_moment hr (pa_cons (pv 1) pa_nil)))) (pss_one ps_never) pss_nil)
      (pss_one (ps_ret (pe_op op_fdivW (pv 1) (pe_fld (pv 0) rfl))))), ?_⟩
    refine ⟨_, rfl, _, rfl, _, rfl, ?_⟩
    rw [decide_eq_true hx]
    refine iteF ?_
    refine ⟨_, rfl, _, rfl, _, _, _, _, _, rfl, hd, T.C_Day.cl, T.na_Day_length, dayF_len _, ?_⟩
    exact ⟨_, _, rfl, rfl, wide_div (b := 41) hn.1 (by omega) (by decide) (by decide), k⟩
theorem c_Day_forward (T : Txt K mg ADay) : MetF P w K mg base 3 ADay "forward" ["self", "a", "b"] (spForward ADay) := by
  have c_is_moment := c_is_moment (P := P) (w := w) (base := base) T
  refine T.m_Day_forward.ok sc_Day_forward (fun vs H Q E h => ?_) (fun f cdv A outer s H vs Q E hr h => ?_)
  · obtain ⟨p, n, a, b, rfl, _⟩ := h
    rfl
  · obtain ⟨p, n, a, b, rfl, ⟨dx, hd⟩, hn, ha, hb, k⟩ := h
    refine ⟨_, (pss_cons (ps_if (pt_not (pt_val (pe_f c_is_moment hr (pa_cons (pv 1) pa_nil)))) (pss_one ps_never) pss_nil)
      (pss_cons (ps_if (pt_not (pt_val (pe_f c_is_moment hr (pa_cons (pv 2) pa_nil)))) (pss_one ps_never) pss_nil)
      (pss_one (ps_ret (pe_op op_mod (pe_op op_sub (pv 2) (pv 1)) (pe_fld (pv 0) rfl)))))), ?_⟩
    refine ⟨_, rfl, _, rfl, _, rfl, ?_⟩
    rw [decide_eq_true ha]
    refine iteF ?_
    refine ⟨_, rfl, _, rfl, _, rfl, ?_⟩
    rw [decide_eq_true hb]
    refine iteF ?_
    refine ⟨_, rfl, _, rfl, _, _, rfl, rfl, _, rfl, _, _, _, _, _, rfl, hd, T.C_Day.cl, T.na_Day_length, dayF_len _, ?_⟩
    exact ⟨_, _, rfl, rfl, hn, k⟩
def spDay (C : Addr) : Sp := fun vs H Q _ => ∃ n, vs = [.int n] ∧ (1 ≤ n ∧ n ≤ 1000000000000) ∧ ∀ q H', H q = none → Same H H' → DayAt C H' q n → Q (.ref q) H'
theorem n_Day (T : Txt K mg ADay) : NewF P w K mg base 3 "Day" ADay (spDay ADay) := by
  refine ⟨_, _, c_Day___init__ T, T.C_Day, fun vs H Q h p dx np nd ne => ?_⟩
  obtain ⟨n, rfl, hn, k⟩ := h
  refine ⟨p, dx, n, rfl, upd_same, hn, fun H' d b => ⟨rfl, k p H' np (fun c o e => ?_) d⟩⟩
  refine b c o ?_ (ne_of_none e np)
  rw [upd_ne (ne_of_none e np), upd_ne (ne_of_none e nd)]
  exact e
theorem c_times_as_long (T : Txt K mg ADay) : CalF P w K mg base 5 "times_as_long" ["day", "k"] (spTimes ADay) := by
  have c_is_int := c_is_int (P := P) (w := w) (base := base) T
  have c_is_number_from_one := c_is_number_from_one (P := P) (w := w) (base := base) T
  have n_Day := n_Day (P := P) (w := w) (base := base) T
  refine T.d_times_as_long.ok sc_times_as_long (fun vs H Q E h => ?_) (fun f cdv A outer s H vs Q E hr h => ?_)
  · obtain ⟨p, n, k, rfl, _⟩ := h
    rfl
  · obtain ⟨p, n, k, rfl, ⟨dx, hd⟩, hn, hk, q⟩ := h
    have hm : CMul n k := .inl ⟨by omega, by omega⟩
    refine ⟨_, (pss_cons (ps_if (PW.pt (pw_or (pt_not (pt_val (pe_f c_is_int hr (pa_cons (pv 1) pa_nil)))) (pw_or1 (pt_not (pt_val (pe_f c_is_number_from_one hr (pa_cons (pe_op op_mul (pe_fld (pv 0) rfl) (pv 1)) pa_nil))))))) (pss_one ps_never) pss_nil)
      (pss_one (ps_ret (pe_w n_Day hr (pa_cons (pe_op op_mul (pe_fld (pv 0) rfl) (pv 1)) pa_nil))))), ?_⟩
    refine ⟨_, rfl, _, rfl, _, rfl, iteF ?_⟩
    refine ⟨_, rfl, _, _, _, _, _, rfl, hd, T.C_Day.cl, T.na_Day_length, dayF_len _, _, rfl, _, _, rfl, rfl, hm, _, rfl, _, rfl, ?_⟩
    rw [decide_eq_true hk]
    refine iteF ?_
    refine ⟨_, rfl, _, _, _, _, _, rfl, hd, T.C_Day.cl, T.na_Day_length, dayF_len _, _, rfl, _, _, rfl, rfl, hm, ?_⟩
    exact ⟨_, rfl, hk, q⟩
theorem c_Day___mul__ (T : Txt K mg ADay) : MetF P w K mg base 6 ADay "__mul__" ["self", "other"] (spTimes ADay) := by
  have c_times_as_long := c_times_as_long (P := P) (w := w) (base := base) T
  refine T.m_Day___mul__.ok sc_Day___mul__ (fun vs H Q E h => ?_) (fun f cdv A outer s H vs Q E hr h => ?_)
  · obtain ⟨p, n, k, rfl, _⟩ := h
    rfl
  · obtain ⟨p, n, k, rfl, r⟩ := h
    refine ⟨_, (pss_one (ps_ret (pe_f c_times_as_long hr (pa_cons (pv 0) (pa_cons (pv 1) pa_nil))))), ?_⟩
    exact ⟨_, rfl, _, rfl, p, n, k, rfl, r⟩
theorem c_Day___rmul__ (T : Txt K mg ADay) : MetF P w K mg base 6 ADay "__rmul__" ["self", "other"] (spTimes ADay) := by
  have c_times_as_long := c_times_as_long (P := P) (w := w) (base := base) T
  refine T.m_Day___rmul__.ok sc_Day___rmul__ (fun vs H Q E h => ?_) (fun f cdv A outer s H vs Q E hr h => ?_)
  · obtain ⟨p, n, k, rfl, _⟩ := h
    rfl
  · obtain ⟨p, n, k, rfl, r⟩ := h
    refine ⟨_, (pss_one (ps_ret (pe_f c_times_as_long hr (pa_cons (pv 0) (pa_cons (pv 1) pa_nil))))), ?_⟩
    exact ⟨_, rfl, _, rfl, p, n, k, rfl, r⟩
theorem c_Day___eq__ (T : Txt K mg ADay) : MetF P w K mg base 1 ADay "__eq__" ["self", "other"] (spDayEq ADay) := by
  refine T.m_Day___eq__.ok sc_Day___eq__ (fun vs H Q E h => ?_) (fun f cdv A outer s H vs Q E hr h => ?_)
  · obtain ⟨a, b, n, m, rfl, _⟩ := h
    rfl
  · obtain ⟨a, b, n, m, rfl, ⟨dx, ha⟩, ⟨dy, hb⟩, q⟩ := h
    refine ⟨_, (pss_one (ps_ret (pe_and (pe_callB call_isi (by rfl) T.b_isinstance (by decide +kernel) (pa_cons (pv 1) (pa_cons (pe_glob (v := .ref ADay) rfl T.C_Day.mgC rfl) pa_nil))) (pe_one (pe_cmpR op_eqi (pe_fld (pv 0) rfl) (pe_fld (pv 1) rfl) (nomark _)))))), ?_⟩
    refine ⟨_, rfl, _, _, _, _, _, rfl, .own _, .base (.ins hb T.C_Day.cl T.I_Day.ha T.I_Day.hn T.I_Day.htk T.I_Day.hm), kit_self _, ?_⟩
    refine ⟨_, rfl, iteT ?_⟩
    refine ⟨_, rfl, _, _, _, _, _, rfl, ha, T.C_Day.cl, T.na_Day_length, dayF_len _, ?_⟩
    refine ⟨_, rfl, _, _, _, _, _, rfl, hb, T.C_Day.cl, T.na_Day_length, dayF_len _, ?_⟩
    exact ⟨_, _, rfl, rfl, q⟩
end


/-! ### the pen -/
def Pn (p l : Addr) (ns : List Int) (b : Int) (H : Hp) : Prop := ∃ (spot left : Int), H p = some (.lst [.ref l, .int spot, .int left]) ∧ H l = some (.lst (ns.map V.int)) ∧ 0 ≤ spot ∧ spot ≤ b ∧ 0 ≤ left ∧ ns.length ≤ 63
theorem Pn.ne {p l : Addr} {ns : List Int} {b : Int} {H : Hp} (h : Pn p l ns b H) : l ≠ p := by
  obtain ⟨s, t, h1, h2, _⟩ := h
  intro e
  subst e
  rw [h1] at h2
  cases ns with
  | nil => cases h2
  | cons a r => cases h2
theorem Pn.mono {p l : Addr} {ns : List Int} {b c : Int} {H : Hp} (h : Pn p l ns b H) (hc : b ≤ c) : Pn p l ns c H := by
  obtain ⟨s, t, h1, h2, h3, h4, h5⟩ := h
  exact ⟨s, t, h1, h2, h3, by omega, h5⟩
theorem Pn.same {p l : Addr} {ns : List Int} {b : Int} {H H' : Hp} (h : Pn p l ns b H) (e : Same H H') : Pn p l ns b H' := by
  obtain ⟨s, t, h1, h2, r⟩ := h
  exact ⟨s, t, e _ _ h1, e _ _ h2, r⟩
theorem Pn.at_ {p l : Addr} {ns : List Int} {b : Int} {H : Hp} (h : Pn p l ns b H) : ∃ o, H p = some o := let ⟨s, t, h1, _⟩ := h; ⟨_, h1⟩
def spPen (K : PySem.W.Frag) : Sp := fun vs H Q _ => ∃ (a : Addr) (ns : List Int), vs = [.ref a] ∧ SqL K H a (ns.map V.int) ∧ ns.length ≤ 63 ∧
  ∀ p l ms H', H p = none → Same H H' → Pn p l ms 0 H' → Q (.ref p) H'
def spDraw : Sp := fun vs H Q _ => ∃ p l ns b many, vs = [.ref p, .int many] ∧ Pn p l ns b H ∧ b ≤ 1000000 ∧ (0 < many ∧ many ≤ 10 ^ 60) ∧
  ∀ n H', 0 ≤ n ∧ n < many → Pn p l ns (b + 1) H' → But p H H' → Q (.int n) H'
def spPick (K : PySem.W.Frag) : Sp := fun vs H Q _ => ∃ p l ns b q xs, vs = [.ref p, .ref q] ∧ Pn p l ns b H ∧ b ≤ 1000000 ∧ SqL K H q xs ∧ q ≠ p ∧ (0 < xs.length ∧ xs.length ≤ 1000) ∧
  ∀ v H', v ∈ xs → Pn p l ns (b + 1) H' → But p H H' → Q v H'
section
variable {P : Program} {w : World} {K : PySem.W.Frag} {mg : Str → Option Value} {base : Heap} {ADay : Addr}
theorem c_law_pen (T : Txt K mg ADay) : CalF P w K mg base 1 "_law_pen" ["script"] (spPen K) := by
  refine T.d_law_pen.ok sc_law_pen (fun vs H Q E h => ?_) (fun f cdv A outer s H vs Q E hr h => ?_)
  · obtain ⟨a, ns, rfl, _⟩ := h
    rfl
  · obtain ⟨a, ns, rfl, hs, hn, k⟩ := h
    refine ⟨_, (pss_one (ps_ret (pe_lst (pa_cons (pe_callTy call_list_of (by rfl) T.b_list (by decide +kernel) (pa_cons (pe_slice sl_list (pv 0) po_none (po_some pe_int)) pa_nil)) (pa_cons pe_int (pa_cons pe_int pa_nil)))))), ?_⟩
    refine ⟨_, rfl, _, rfl, _, _, rfl, hs, fun p1 n1 => ?_⟩
    have ec : ∃ ms : List Int, cutV (ns.map V.int) none (some 63) = ms.map V.int ∧ ms.length ≤ ns.length := by
      refine ⟨(ns.drop (HT.sIx (ns.map V.int).length 0 none)).take (HT.sIx (ns.map V.int).length (ns.map V.int).length (some 63) - HT.sIx (ns.map V.int).length 0 none), ?_, ?_⟩
      · unfold cutV
        rw [List.map_take, List.map_drop]
      · rw [List.length_take, List.length_drop]
        omega
    obtain ⟨ms, e1, e2⟩ := ec
    rw [e1]
    refine ⟨p1, _, rfl, .inl (SqL.of upd_same), fun l nl => ?_⟩
    refine ⟨(by show 3 ≤ sizeLine; decide), fun p np => ?_⟩
    have s1 : Same H (upd H p1 (.lst (ms.map V.int))) := fun b o e => by rw [upd_ne (ne_of_none e n1)]; exact e
    have s2 : Same (upd H p1 (.lst (ms.map V.int))) (upd (upd H p1 (.lst (ms.map V.int))) l (.lst (ms.map V.int))) := fun b o e => by rw [upd_ne (ne_of_none e nl)]; exact e
    have s3 := s1.trans s2
    have s4 : Same H (upd (upd (upd H p1 (.lst (ms.map V.int))) l (.lst (ms.map V.int))) p (.lst [.ref l, .int 0, .int 0])) := s3.trans fun b o e => by rw [upd_ne (ne_of_none e np)]; exact e
    refine k p l ms _ (s3.free np) s4 ⟨0, 0, upd_same, ?_, by omega, by omega, by omega, by omega⟩
    rw [upd_ne (ne_of_none upd_same np), upd_same]
theorem c_law_draw (T : Txt K mg ADay) : CalF P w K mg base 1 "_law_draw" ["pen", "many"] spDraw := by
  refine T.d_law_draw.ok sc_law_draw (fun vs H Q E h => ?_) (fun f cdv A outer s H vs Q E hr h => ?_)
  · obtain ⟨p, l, ns, b, many, rfl, _⟩ := h
    rfl
  · obtain ⟨p, l, ns, b, many, rfl, hP, hb, hm, k⟩ := h
    have nlp := hP.ne
    obtain ⟨spot, left, hp, hl, h0, h1, h2, h3⟩ := hP
    have hdiv : ∀ x : Int, CDivW x many := fun x => wide_div (b := 200) hm.1 (by omega) (by decide) (by decide)
    refine ⟨_, (pss_cons (ps_if (pt_cmpR op_gt (pe_ix ix_list (pv 0) pe_int (fun _ _ => rfl)) pe_int (nomark _)) (pss_cons (ps_set (i := 2) sc_law_draw.nd rfl (Or.inl rfl) (pe_op op_mod (pe_callTy call_int1 (by rfl) T.b_int (by decide +kernel) (pa_cons (pe_ix ix_list (pv 0) pe_int (fun _ _ => rfl)) pa_nil)) (pv 1)))
      (pss_cons (ps_asg (pe_op op_fdivW (pe_callTy call_int1 (by rfl) T.b_int (by decide +kernel) (pa_cons (pe_ix ix_list (pv 0) pe_int (fun _ _ => rfl)) pa_nil)) (pv 1)) (pg_sub (pv 0) pe_int set_list))
      (pss_one (ps_ret (pv 2))))) pss_nil)
      (pss_cons (ps_set (i := 3) sc_law_draw.nd rfl (Or.inl rfl) (pe_ix ix_list (pv 0) pe_int (fun _ _ => rfl)))
      (pss_cons (ps_asg (pe_op op_add (pv 3) pe_int) (pg_sub (pv 0) pe_int set_list))
      (pss_cons (ps_set (i := 4) sc_law_draw.nd rfl (Or.inl rfl) (pe_op op_add (pe_op op_mul pe_int (pv 3)) pe_int))
      (C8.pss_cut (ps_if (pt_cmpR (op_neD hr.units) (pe_ix ix_list (pv 0) pe_int (fun _ _ => rfl)) (pe_lst pa_nil) (nomark _)) (pss_one (ps_set (i := 4) sc_law_draw.nd rfl (Or.inl rfl) (pe_ix ix_list (pe_ix ix_list (pv 0) pe_int (fun _ _ => rfl)) (pe_op op_mod (pe_callTy call_int1 (by rfl) T.b_int (by decide +kernel) (pa_cons (pv 3) pa_nil)) (pe_callB call_len_seq (by rfl) T.b_len (by decide +kernel) (pa_cons (pe_ix ix_list (pv 0) pe_int (fun _ _ => rfl)) pa_nil))) (fun _ _ => rfl)))) pss_nil)
      (C8.pss_cut (ps_if (PW.pt (pw_and (pt_cmpR op_lt (pv 3) (pe_callB call_len_seq (by rfl) T.b_len (by decide +kernel) (pa_cons (pe_ix ix_list (pv 0) pe_int (fun _ _ => rfl)) pa_nil)) (nomark _)) (pw_and1 (pt_cmpR op_ge (pe_callB call_abs (by rfl) T.b_abs (by decide +kernel) (pa_cons (pv 4) pa_nil)) (pe_op op_pow pe_int pe_int) (nomark _))))) (pss_cons (ps_set (i := 5) sc_law_draw.nd rfl (Or.inl rfl) (pe_op op_add (pe_op op_mul pe_int (pe_op op_sub (pe_callB call_abs (by rfl) T.b_abs (by decide +kernel) (pa_cons (pv 4) pa_nil)) (pe_op op_pow pe_int pe_int))) (pe_callTy call_int1 (by rfl) T.b_int (by decide +kernel) (pa_cons (pe_cmpR op_lt (pv 4) pe_int (nomark _)) pa_nil))))
      (pss_cons (ps_asg (pe_op op_fdivW (pe_callTy call_int1 (by rfl) T.b_int (by decide +kernel) (pa_cons (pv 5) pa_nil)) (pv 1)) (pg_sub (pv 0) pe_int set_list))
      (pss_one (ps_ret (pe_op op_mod (pe_callTy call_int1 (by rfl) T.b_int (by decide +kernel) (pa_cons (pv 5) pa_nil)) (pv 1)))))) pss_nil)
      (pss_cons (ps_set (i := 6) sc_law_draw.nd rfl (Or.inl rfl) (pe_op op_mod (pe_callTy call_int1 (by rfl) T.b_int (by decide +kernel) (pa_cons (pe_op op_pow (pe_op op_add (pe_op op_add (pe_op op_mod (pe_callTy call_int1 (by rfl) T.b_int (by decide +kernel) (pa_cons (pv 4) pa_nil)) pe_int) (pe_op op_mul pe_int (pv 3))) pe_int) pe_int) pa_nil)) pe_int))
      (pss_cons (ps_set (i := 6) sc_law_draw.nd rfl (Or.inl rfl) (pe_op op_mod (pe_callTy call_int1 (by rfl) T.b_int (by decide +kernel) (pa_cons (pe_op op_pow (pe_op op_add (pe_op op_add (pe_op op_mul (pv 6) (pe_op op_add (pe_op op_mul pe_int (pv 3)) pe_int)) (pe_op op_mul (pe_op op_mul pe_int (pv 3)) (pv 3))) pe_int) pe_int) pa_nil)) pe_int))
      (pss_one (ps_ret (pe_op op_mod (pe_callTy call_int1 (by rfl) T.b_int (by decide +kernel) (pa_cons (pe_op op_fdiv (pv 6) pe_int) pa_nil)) (pv 1)))))))))))), ?_⟩
    refine ⟨_, rfl, p, _, 2, _, rfl, rfl, SqL.of hp, rfl, _, _, rfl, rfl, _, rfl, ?_⟩
    refine ite2 (fun c => ?_) (fun c => ?_)
    · rw [decide_eq_true_eq] at c
      refine ⟨_, rfl, p, _, 2, _, rfl, rfl, SqL.of hp, rfl, .inl ⟨_, rfl, _, rfl, _, _, rfl, rfl, hm.1, ?_⟩⟩
      refine ⟨_, rfl, p, _, 2, _, rfl, rfl, SqL.of hp, rfl, .inl ⟨_, rfl, _, rfl, _, _, rfl, rfl, hdiv _, ?_⟩⟩
      refine ⟨_, rfl, p, _, 2, 2, rfl, rfl, hp, rfl, ?_⟩
      refine ⟨_, rfl, ?_⟩
      refine k _ _ ⟨Int.emod_nonneg _ (by omega), Int.emod_lt_of_pos _ hm.1⟩ ⟨spot, left / many, upd_same, ?_, h0, by omega, Int.ediv_nonneg h2 (by omega), h3⟩ But.upd
      rw [upd_ne nlp]
      exact hl
    · refine ⟨_, rfl, p, _, 1, _, rfl, rfl, SqL.of hp, rfl, ?_⟩
      refine ⟨_, rfl, _, _, rfl, rfl, _, rfl, p, _, 1, 1, rfl, rfl, hp, rfl, ?_⟩
      have hp1 : (upd H p (.lst [.ref l, .int (spot + 1), .int left])) p = some (.lst [.ref l, .int (spot + 1), .int left]) := upd_same
      have hl1 : (upd H p (.lst [.ref l, .int (spot + 1), .int left])) l = some (.lst (ns.map V.int)) := by rw [upd_ne nlp]; exact hl
      have hB1 : But p H (upd H p (.lst [.ref l, .int (spot + 1), .int left])) := But.upd
      refine ⟨_, rfl, _, _, rfl, rfl, .inl ⟨by decide, by decide⟩, _, _, rfl, rfl, ?_⟩
      refine ⟨fun σ H2 => ∃ c : Int, σ = [some (.ref p), some (.int many), none, some (.int spot), some (.int c), none, none] ∧ H2 p = some (.lst [.ref l, .int (spot + 1), .int left]) ∧ H2 l = some (.lst (ns.map V.int)) ∧ But p H H2, ?_, ?_⟩
      · refine ⟨_, rfl, p, _, 0, _, rfl, rfl, SqL.of hp1, rfl, (by show 0 ≤ sizeLine; decide), fun q nq => ?_⟩
        have hp2 : (upd (upd H p (.lst [.ref l, .int (spot + 1), .int left])) q (.lst [])) p = some (.lst [.ref l, .int (spot + 1), .int left]) := (upd_ne (ne_of_none hp1 nq)).trans hp1
        have hl2 : (upd (upd H p (.lst [.ref l, .int (spot + 1), .int left])) q (.lst [])) l = some (.lst (ns.map V.int)) := (upd_ne (ne_of_none hl1 nq)).trans hl1
        have hB2 : But p H (upd (upd H p (.lst [.ref l, .int (spot + 1), .int left])) q (.lst [])) := hB1.trans (But.new nq)
        refine ⟨.list (ns.map PyData.int), .list [], .lst (SqL.of hl2) (dp_ints ns), .lst (SqL.of upd_same) .nil, shaped_ints ns, by decide, ?_⟩
        rw [eqv_nil]
        refine ⟨_, rfl, ?_⟩
        cases he : ns.isEmpty with
        | true => exact iteF ⟨_, rfl, hp2, hl2, hB2⟩
        | false =>
          refine iteT ?_
          have hlen : 0 < (ns.map V.int).length := by
            cases ns with
            | nil => cases he
            | cons a r => simp
          refine ⟨_, rfl, p, _, 0, _, rfl, rfl, SqL.of hp2, rfl, ?_⟩
          refine ⟨_, rfl, .inl ⟨_, rfl, _, rfl, p, _, 0, _, rfl, rfl, SqL.of hp2, rfl, l, _, rfl, .inl (SqL.of hl2), _, _, rfl, rfl, (by show (0 : Int) < _; omega), ?_⟩⟩
          obtain ⟨c, hc⟩ := at_ex (ns := ns) (i := spot % ((ns.map V.int).length : Int)) (Int.emod_nonneg _ (by omega)) (Int.emod_lt_of_pos _ (by omega))
          exact ⟨l, _, _, _, rfl, rfl, SqL.of hl2, hc, c, rfl, hp2, hl2, hB2⟩
      · rintro σ H2 ⟨c, rfl, hp2, hl2, hB2⟩
        have small : 0 ≤ c % 2147483587 + 52853 * spot + 369 ∧ c % 2147483587 + 52853 * spot + 369 < 2 ^ 60 := by omega
        refine ⟨fun σ H3 => σ = [some (.ref p), some (.int many), none, some (.int spot), some (.int c), none, none] ∧ H3 = H2, ?_, ?_⟩
        · refine ⟨_, rfl, _, rfl, p, _, 0, _, rfl, rfl, SqL.of hp2, rfl, l, _, rfl, .inl (SqL.of hl2), _, _, rfl, rfl, _, rfl, ?_⟩
          refine ite2 (fun c1 => ?_) (fun c1 => iteF ⟨rfl, rfl⟩)
          refine ⟨_, rfl, _, rfl, _, _, rfl, rfl, ⟨by decide, by decide, by decide⟩, _, _, rfl, rfl, _, rfl, ?_⟩
          refine ite2 (fun c2 => ?_) (fun c2 => ⟨rfl, rfl⟩)
          rw [decide_eq_true_eq] at c2
          refine ⟨_, rfl, _, rfl, _, _, rfl, rfl, ⟨by decide, by decide, by decide⟩, _, _, rfl, rfl, _, _, rfl, rfl, .inl ⟨by decide, by decide⟩, ?_⟩
          refine ⟨_, rfl, _, _, rfl, rfl, .inr ⟨_, rfl, _, _, rfl, rfl, ?_⟩⟩
          refine ⟨_, rfl, .inl ⟨_, rfl, _, rfl, _, _, rfl, rfl, hdiv _, _, rfl, p, _, 2, 2, rfl, rfl, hp2, rfl, ?_⟩⟩
          refine ⟨_, rfl, .inl ⟨_, rfl, _, rfl, _, _, rfl, rfl, hm.1, ?_⟩⟩
          refine k _ _ ⟨Int.emod_nonneg _ (by omega), Int.emod_lt_of_pos _ hm.1⟩ ⟨spot + 1, _, upd_same, ?_, by omega, by omega, Int.ediv_nonneg ?_ (by omega), h3⟩ (hB2.trans But.upd)
          · rw [upd_ne nlp]
            exact hl2
          · have e18 : (10 : Int) ^ Int.toNat 18 = 1000000000000000000 := by decide
            rw [e18] at c2 ⊢
            split at c2 <;> split <;> omega
        · rintro σ H3 ⟨rfl, rfl⟩
          refine ⟨_, rfl, .inl ⟨_, rfl, _, _, rfl, rfl, (by show (0 : Int) < 2147483587; decide), ?_⟩⟩
          refine ⟨_, rfl, _, _, rfl, rfl, .inl ⟨by decide, by decide⟩, _, _, rfl, rfl, _, _, rfl, rfl, _, _, rfl, rfl, ⟨by decide, by decide, by omega⟩, .inl ⟨_, rfl, _, _, rfl, rfl, (by show (0 : Int) < 2147483629; decide), ?_⟩⟩
          have hz0 : 0 ≤ (c % 2147483587 + 52853 * spot + 369) ^ Int.toNat 5 % 2147483629 ∧ (c % 2147483587 + 52853 * spot + 369) ^ Int.toNat 5 % 2147483629 ≤ 2147483700 :=
            ⟨Int.emod_nonneg _ (by decide), by have := Int.emod_lt_of_pos ((c % 2147483587 + 52853 * spot + 369) ^ Int.toNat 5) (b := 2147483629) (by decide); omega⟩
          have hu := mul_bnd (b := 2 * spot + 89) (A := 2147483700) (B := 2001000) hz0 ⟨by omega, by omega⟩
          have hs := mul_bnd (a := 61373 * spot) (b := spot) (A := 100000000000) (B := 1000000) ⟨by omega, by omega⟩ ⟨by omega, by omega⟩
          refine ⟨_, rfl, _, rfl, _, _, rfl, rfl, .inl ⟨by decide, by decide⟩, _, _, rfl, rfl, _, _, rfl, rfl, .inl ⟨by omega, by omega⟩, ?_⟩
          refine ⟨_, rfl, _, _, rfl, rfl, .inl ⟨by decide, by decide⟩, _, rfl, _, _, rfl, rfl, .inl ⟨by omega, by omega⟩, ?_⟩
          refine ⟨_, _, rfl, rfl, _, _, rfl, rfl, _, _, rfl, rfl, ⟨by decide, by decide, by omega⟩, .inl ⟨_, rfl, _, _, rfl, rfl, (by show (0 : Int) < 2147483579; decide), ?_⟩⟩
          refine ⟨_, rfl, _, _, rfl, rfl, ⟨by decide, by decide⟩, .inl ⟨_, rfl, _, rfl, _, _, rfl, rfl, hm.1, ?_⟩⟩
          exact k _ H3 ⟨Int.emod_nonneg _ (by omega), Int.emod_lt_of_pos _ hm.1⟩ ⟨spot + 1, left, hp2, hl2, by omega, by omega, h2, h3⟩ hB2
theorem c_law_pick (T : Txt K mg ADay) : CalF P w K mg base 2 "_law_pick" ["pen", "some"] (spPick K) := by
  have c_law_draw := c_law_draw (P := P) (w := w) (base := base) T
  refine T.d_law_pick.ok sc_law_pick (fun vs H Q E h => ?_) (fun f cdv A outer s H vs Q E hr h => ?_)
  · obtain ⟨p, l, ns, b, q, xs, rfl, _⟩ := h
    rfl
  · obtain ⟨p, l, ns, b, q, xs, rfl, hP, hb, hq, hne, hx, k⟩ := h
    refine ⟨_, (pss_one (ps_ret (pe_ix ix_list (pv 1) (pe_f c_law_draw hr (pa_cons (pv 0) (pa_cons (pe_callB call_len_seq (by rfl) T.b_len (by decide +kernel) (pa_cons (pv 1) pa_nil)) pa_nil))) (fun _ _ => rfl)))), ?_⟩
    refine ⟨_, rfl, _, rfl, _, rfl, q, _, rfl, .inl hq, p, l, ns, b, _, rfl, hP, hb, ⟨by omega, by omega⟩, fun n H' hn hP' hB => ?_⟩
    obtain ⟨v, hv, e⟩ := at_ex' hn.1 hn.2
    exact ⟨q, _, _, v, rfl, rfl, hq.but hB hne, e, k v H' hv hP' hB⟩
end

/-! ### mathematics -/
theorem m_back {a b s : Int} (hs : 0 < s) : (b - a) % s + (a - b) % s = if a % s = b % s then 0 else s := by
  have e : (a - b) % s = (0 - (b - a)) % s := by congr 1; omega
  have h0 := Int.emod_nonneg (b - a) (b := s) (by omega)
  have h1 := Int.emod_lt_of_pos (b - a) hs
  have h2 := Int.emod_nonneg (a - b) (b := s) (by omega)
  have h3 := Int.emod_lt_of_pos (a - b) hs
  have key : ((b - a) % s + (a - b) % s) % s = 0 := by
    rw [← Int.add_emod]
    have : b - a + (a - b) = 0 := by omega
    rw [this, Int.zero_emod]
  have hd := Int.emod_emod_of_dvd
  split
  · rename_i h
    have z : (b - a) % s = 0 := Int.emod_eq_zero_of_dvd (Int.dvd_of_emod_eq_zero (by
      rw [Int.sub_emod, h, Int.sub_self, Int.zero_emod]))
    have z2 : (a - b) % s = 0 := Int.emod_eq_zero_of_dvd (Int.dvd_of_emod_eq_zero (by
      rw [Int.sub_emod, h, Int.sub_self, Int.zero_emod]))
    omega
  · rename_i h
    have nz : (b - a) % s ≠ 0 := fun z => h (by
      have d := Int.dvd_of_emod_eq_zero z
      obtain ⟨k, hk⟩ := d
      have : b = a + s * k := by omega
      rw [this, Int.add_mul_emod_self_left])
    have pos : 0 < (b - a) % s + (a - b) % s := by omega
    obtain ⟨k, hk⟩ := Int.dvd_of_emod_eq_zero key
    have k1 : k = 1 := by
      have : 0 < s * k := by omega
      have kp : 0 < k := by
        rcases Int.lt_or_le 0 k with q | q
        · exact q
        · have := Int.mul_nonpos_of_nonneg_of_nonpos (Int.le_of_lt hs) q
          omega
      rcases Int.lt_or_le k 2 with q | q
      · omega
      · have : s * 2 ≤ s * k := Int.mul_le_mul_of_nonneg_left q (Int.le_of_lt hs)
        omega
    rw [k1, Int.mul_one] at hk
    omega
theorem m_row {a b c s : Int} : ((b - a) % s + (c - b) % s) % s = (c - a) % s := by
  rw [← Int.add_emod]
  congr 1
  omega
theorem m_there {a b s : Int} : (a + (b - a) % s) % s = b % s := by
  rw [Int.add_emod_emod]
  congr 1
  omega
theorem m_days {a d s : Int} : (a + d * s) % s = a % s := Int.add_mul_emod_self_right ..
theorem m_daysq {a d s : Int} (hs : 0 < s) : (a + d * s) / s = a / s + d := Int.add_mul_ediv_right _ _ (by omega)
theorem m_far {a b d s : Int} : ((b - d * s) - (a + d * s)) % s = (b - a) % s := by
  have : (b - d * s) - (a + d * s) = (b - a) + (-(d + d)) * s := by
    rw [Int.neg_mul, Int.add_mul]
    omega
  rw [this, Int.add_mul_emod_self_right]
theorem m_twice {a s : Int} : (a % s) % s = a % s := Int.emod_emod_of_dvd _ (Int.dvd_refl _)
theorem m_longq {x s m : Int} (hs : 0 < s) : x / (s * m) = x / s / m := (Int.ediv_ediv_of_nonneg (Int.le_of_lt hs)).symm
theorem m_longr {x s m : Int} : x % (s * m) = x % s + s * (x / s - x / (s * m) * m) := by
  have h1 := Int.emod_def x (s * m)
  have h2 := Int.emod_def x s
  rw [h1, h2, Int.mul_sub]
  have : s * (x / (s * m) * m) = s * m * (x / (s * m)) := by rw [Int.mul_comm (x / (s * m)) m, Int.mul_assoc]
  omega
theorem m_wait {w s m : Int} : (w % (s * m)) % s = w % s := Int.emod_emod_of_dvd _ (Int.dvd_mul_right s m)
theorem m_waitle {w s m : Int} (hs : 0 < s) (hm : 0 < m) : w % s ≤ w % (s * m) := by
  have h := Int.emod_nonneg w (b := s * m) (by have := Int.mul_pos hs hm; omega)
  have e := Int.emod_def (w % (s * m)) s
  have q := Int.mul_nonneg (Int.le_of_lt hs) (Int.ediv_nonneg h (Int.le_of_lt hs))
  rw [m_wait] at e
  omega
/-! ### the law's own defs -/
def spMoment : Sp := fun vs H Q _ => ∃ p l ns b size, vs = [.ref p, .int size] ∧ Pn p l ns b H ∧ b ≤ 999900 ∧ (0 < size ∧ size ≤ 10 ^ 13) ∧
  ∀ n H', -(10 ^ 50) ≤ n ∧ n ≤ 10 ^ 50 → Pn p l ns (b + 5) H' → But p H H' → Q (.int n) H'
def spWaits (C : Addr) : Sp := fun vs H Q _ => ∃ p l ns b d size, vs = [.ref p, .ref d, .int size] ∧ Pn p l ns b H ∧ b ≤ 999800 ∧ DayAt C H d size ∧ d ≠ p ∧ (1 ≤ size ∧ size ≤ 1000000000000) ∧
  ∀ H', Pn p l ns (b + 16) H' → But p H H' → Q (.bl true) H'
def spLong (C : Addr) : Sp := fun vs H Q _ => ∃ p l ns b d size many, vs = [.ref p, .ref d, .int size, .int many] ∧ Pn p l ns b H ∧ b ≤ 999800 ∧ DayAt C H d size ∧ d ≠ p ∧ (1 ≤ size ∧ size ≤ 1000000000000) ∧ (1 ≤ many ∧ many ≤ 100) ∧ size * many ≤ 1000000000000 ∧
  ∀ H', Pn p l ns (b + 30) H' → But p H H' → Q (.bl true) H'
section
variable {P : Program} {w : World} {K : PySem.W.Frag} {mg : Str → Option Value} {base : Heap} {ADay : Addr}
theorem c_law_moment (T : Txt K mg ADay) : CalF P w K mg base 3 "_law_moment" ["pen", "size"] spMoment := by
  have c_law_draw := c_law_draw (P := P) (w := w) (base := base) T
  have c_law_pick := c_law_pick (P := P) (w := w) (base := base) T
  refine T.d_law_moment.ok sc_law_moment (fun vs H Q E h => ?_) (fun f cdv A outer s H vs Q E hr h => ?_)
  · obtain ⟨p, l, ns, b, size, rfl, _⟩ := h
    rfl
  · obtain ⟨p, l, ns, b, size, rfl, hP, hb, hs, k⟩ := h
    refine ⟨_, (pss_cons (ps_set (i := 2) sc_law_moment.nd rfl (Or.inl rfl) (pe_f c_law_pick hr (pa_cons (pv 0) (pa_cons (pe_lst (pa_cons (pe_f c_law_draw hr (pa_cons (pv 0) (pa_cons (pv 1) pa_nil))) (pa_cons (pe_f c_law_draw hr (pa_cons (pv 0) (pa_cons (pe_op op_mul pe_int (pv 1)) pa_nil))) (pa_cons (pe_op op_add (pe_op op_pow pe_int pe_int) (pe_f c_law_draw hr (pa_cons (pv 0) (pa_cons (pe_op op_pow pe_int pe_int) pa_nil)))) (pa_cons pe_int pa_nil))))) pa_nil))))
      (pss_one (ps_ret (pe_ifExp (pt_cmpR op_eqi (pe_f c_law_draw hr (pa_cons (pv 0) (pa_cons pe_int pa_nil))) pe_int (nomark _)) (pv 2) (pe_op op_sub pe_int (pv 2)))))), ?_⟩
    refine ⟨_, rfl, _, rfl, _, rfl, p, l, ns, _, _, rfl, hP, by omega, ⟨by omega, by omega⟩, fun n1 H1 hn1 hP1 hB1 => ?_⟩
    refine ⟨_, rfl, _, rfl, _, _, rfl, rfl, .inl ⟨by decide, by decide⟩, p, l, ns, _, _, rfl, hP1, by omega, ⟨by omega, by omega⟩, fun n2 H2 hn2 hP2 hB2 => ?_⟩
    refine ⟨_, _, rfl, rfl, ⟨by decide, by decide, by decide⟩, _, rfl, _, _, rfl, rfl, ⟨by decide, by decide, by decide⟩, p, l, ns, _, _, rfl, hP2, by omega, ⟨by decide, by decide⟩, fun n3 H3 hn3 hP3 hB3 => ?_⟩
    refine ⟨_, _, rfl, rfl, (by show 4 ≤ sizeLine; decide), fun q nq => ?_⟩
    obtain ⟨op, hop⟩ := hP3.at_
    have nqp : q ≠ p := (ne_of_none hop nq).symm
    have e48 : (10 : Int) ^ Int.toNat 48 = 10 ^ 48 := by decide
    have e18 : (10 : Int) ^ Int.toNat 18 = 10 ^ 18 := by decide
    rw [e18] at hn3
    refine ⟨p, l, ns, _, q, _, rfl, hP3.same (fun c o e => by rw [upd_ne (ne_of_none e nq)]; exact e), by omega, SqL.of upd_same, nqp, ⟨by simp, by simp⟩, fun v H4 hv hP4 hB4 => ?_⟩
    obtain ⟨z, rfl, hz⟩ : ∃ z, v = V.int z ∧ (-(10 ^ 49) ≤ z ∧ z ≤ 10 ^ 49) := by
      rw [e48] at hv
      simp only [List.mem_cons, List.not_mem_nil, or_false] at hv
      rcases hv with rfl | rfl | rfl | rfl <;> exact ⟨_, rfl, by omega, by omega⟩
    refine ⟨_, rfl, p, l, ns, _, _, rfl, hP4, by omega, ⟨by decide, by decide⟩, fun n5 H5 hn5 hP5 hB5 => ?_⟩
    have hB : But p H H5 := (((hB1.trans hB2).trans hB3).trans ((But.new nq).trans hB4)).trans hB5
    have hP' : Pn p l ns (b + 5) H5 := hP5.mono (by omega)
    refine ⟨_, _, rfl, rfl, _, rfl, ite2 (fun _ => ?_) (fun _ => ?_)⟩
    · exact ⟨_, rfl, k _ _ ⟨by omega, by omega⟩ hP' hB⟩
    · exact ⟨_, rfl, _, _, rfl, rfl, k _ _ ⟨by omega, by omega⟩ hP' hB⟩
theorem c_law_waits_right (T : Txt K mg ADay) : CalF P w K mg base 4 "_law_waits_right" ["pen", "day", "size"] (spWaits ADay) := by
  have c_law_draw := c_law_draw (P := P) (w := w) (base := base) T
  have c_law_moment := c_law_moment (P := P) (w := w) (base := base) T
  have c_Day_forward := c_Day_forward (P := P) (w := w) (base := base) T
  have c_Day___rmod__ := c_Day___rmod__ (P := P) (w := w) (base := base) T
  have c_Day___rfloordiv__ := c_Day___rfloordiv__ (P := P) (w := w) (base := base) T
  refine T.d_law_waits_right.ok sc_law_waits_right (fun vs H Q E h => ?_) (fun f cdv A outer s H vs Q E hr h => ?_)
  · obtain ⟨p, l, ns, b, d, size, rfl, _⟩ := h
    rfl
  · obtain ⟨p, l, ns, bb, d, size, rfl, hP, hb, hD, hdp, hs, k⟩ := h
    refine ⟨_, (pss_cons (ps_par3 (i := 3) (j := 4) (l := 5) (by rfl) sc_law_waits_right.nd rfl rfl rfl (by decide) (by decide) (by decide) rfl rfl rfl (pa_cons (pe_f c_law_moment hr (pa_cons (pv 0) (pa_cons (pv 2) pa_nil))) (pa_cons (pe_f c_law_moment hr (pa_cons (pv 0) (pa_cons (pv 2) pa_nil))) (pa_cons (pe_f c_law_moment hr (pa_cons (pv 0) (pa_cons (pv 2) pa_nil))) pa_nil))) (by rfl))
      (pss_cons (ps_par (i := 6) (j := 7) (by rfl) sc_law_waits_right.nd rfl rfl (by decide) rfl rfl (pa_cons (pe_m c_Day_forward T.C_Day.cl hr (pv 1) (pa_cons (pv 3) (pa_cons (pv 4) pa_nil))) (pa_cons (pe_m c_Day_forward T.C_Day.cl hr (pv 1) (pa_cons (pv 4) (pa_cons (pv 3) pa_nil))) pa_nil)) (by rfl))
      (C8.pss_cut (ps_if (pt_cmpR op_nei (pe_op op_add (pv 6) (pv 7)) (pe_ifExp (pt_cmpR op_eqi (pe_op (ow_mod T.R_Day c_Day___rmod__ hr T.no_Day___mod__) (pe_callTy call_int1 (by rfl) T.b_int (by decide +kernel) (pa_cons (pv 3) pa_nil)) (pv 1)) (pe_op (ow_mod T.R_Day c_Day___rmod__ hr T.no_Day___mod__) (pe_callTy call_int1 (by rfl) T.b_int (by decide +kernel) (pa_cons (pv 4) pa_nil)) (pv 1)) (nomark _)) pe_int (pv 2)) (nomark _)) (pss_one (ps_ret pe_bl)) pss_nil)
      (pss_cons (ps_if (PW.pt (pw_or (pt_cmpR op_nei (pe_op (ow_mod T.R_Day c_Day___rmod__ hr T.no_Day___mod__) (pe_callTy call_int1 (by rfl) T.b_int (by decide +kernel) (pa_cons (pe_op op_add (pv 6) (pe_m c_Day_forward T.C_Day.cl hr (pv 1) (pa_cons (pv 4) (pa_cons (pv 5) pa_nil)))) pa_nil)) (pv 1)) (pe_m c_Day_forward T.C_Day.cl hr (pv 1) (pa_cons (pv 3) (pa_cons (pv 5) pa_nil))) (nomark _)) (pw_or1 (pt_cmpR op_nei (pe_op (ow_mod T.R_Day c_Day___rmod__ hr T.no_Day___mod__) (pe_callTy call_int1 (by rfl) T.b_int (by decide +kernel) (pa_cons (pe_op op_add (pv 3) (pv 6)) pa_nil)) (pv 1)) (pe_op (ow_mod T.R_Day c_Day___rmod__ hr T.no_Day___mod__) (pe_callTy call_int1 (by rfl) T.b_int (by decide +kernel) (pa_cons (pv 4) pa_nil)) (pv 1)) (nomark _))))) (pss_one (ps_ret pe_bl)) pss_nil)
      (pss_cons (ps_set (i := 8) sc_law_waits_right.nd rfl (Or.inl rfl) (pe_op op_sub (pe_f c_law_draw hr (pa_cons (pv 0) (pa_cons (pe_op op_pow pe_int pe_int) pa_nil))) (pe_op op_pow pe_int pe_int)))
      (pss_cons (ps_if (PW.pt (pw_or (pt_cmpR op_nei (pe_op (ow_mod T.R_Day c_Day___rmod__ hr T.no_Day___mod__) (pe_callTy call_int1 (by rfl) T.b_int (by decide +kernel) (pa_cons (pe_op op_add (pv 3) (pe_op op_mul (pv 8) (pv 2))) pa_nil)) (pv 1)) (pe_op (ow_mod T.R_Day c_Day___rmod__ hr T.no_Day___mod__) (pe_callTy call_int1 (by rfl) T.b_int (by decide +kernel) (pa_cons (pv 3) pa_nil)) (pv 1)) (nomark _)) (pw_or1 (pt_cmpR op_nei (pe_op (ow_fdiv T.R_Day c_Day___rfloordiv__ hr T.no_Day___floordiv__) (pe_op op_add (pv 3) (pe_op op_mul (pv 8) (pv 2))) (pv 1)) (pe_op op_add (pe_op (ow_fdiv T.R_Day c_Day___rfloordiv__ hr T.no_Day___floordiv__) (pv 3) (pv 1)) (pv 8)) (nomark _))))) (pss_one (ps_ret pe_bl)) pss_nil)
      (pss_one (ps_ret (pe_and (pe_cmpR op_eqi (pe_m c_Day_forward T.C_Day.cl hr (pv 1) (pa_cons (pe_op op_add (pv 3) (pe_op op_mul (pv 8) (pv 2))) (pa_cons (pe_op op_sub (pv 4) (pe_op op_mul (pv 8) (pv 2))) pa_nil))) (pv 6) (nomark _)) (pe_one (pe_cmpR op_eqi (pe_op (ow_mod T.R_Day c_Day___rmod__ hr T.no_Day___mod__) (pe_callTy call_int1 (by rfl) T.b_int (by decide +kernel) (pa_cons (pe_op (ow_mod T.R_Day c_Day___rmod__ hr T.no_Day___mod__) (pe_callTy call_int1 (by rfl) T.b_int (by decide +kernel) (pa_cons (pv 3) pa_nil)) (pv 1)) pa_nil)) (pv 1)) (pe_op (ow_mod T.R_Day c_Day___rmod__ hr T.no_Day___mod__) (pe_callTy call_int1 (by rfl) T.b_int (by decide +kernel) (pa_cons (pv 3) pa_nil)) (pv 1)) (nomark _)))))))))))), ?_⟩
    refine ⟨_, rfl, _, rfl, p, l, ns, _, _, rfl, hP, by omega, ⟨by omega, by omega⟩, fun a H1 ha hP1 hB1 => ?_⟩
    refine ⟨_, rfl, _, rfl, p, l, ns, _, _, rfl, hP1, by omega, ⟨by omega, by omega⟩, fun b H2 hbb hP2 hB2 => ?_⟩
    refine ⟨_, rfl, _, rfl, p, l, ns, _, _, rfl, hP2, by omega, ⟨by omega, by omega⟩, fun c H3 hc hP3 hB3 => ?_⟩
    have hB03 : But p H H3 := (hB1.trans hB2).trans hB3
    have hD3 := hD.but hB03 hdp
    obtain ⟨dx, hd3⟩ := id hD3
    refine ⟨_, _, _, rfl, ?_⟩
    have hm : ∀ x : Int, 0 ≤ x % size ∧ x % size < size := fun x => ⟨Int.emod_nonneg _ (by omega), Int.emod_lt_of_pos _ (by omega)⟩
    have hs0 : 0 < size := by omega
    -- there, back
    refine ⟨_, rfl, d, dx, _, rfl, hd3, dayF_no _ (by decide +kernel), _, rfl, _, rfl, d, size, _, _, rfl, hD3, hs0, ⟨by omega, by omega⟩, ⟨by omega, by omega⟩, ?_⟩
    refine ⟨_, rfl, d, dx, _, rfl, hd3, dayF_no _ (by decide +kernel), _, rfl, _, rfl, d, size, _, _, rfl, hD3, hs0, ⟨by omega, by omega⟩, ⟨by omega, by omega⟩, ?_⟩
    refine ⟨_, _, rfl, ?_⟩
    refine ⟨fun σ H4 => σ = [some (.ref p), some (.ref d), some (.int size), some (.int a), some (.int b), some (.int c), some (.int ((b - a) % size)), some (.int ((a - b) % size)), none] ∧ H4 = H3, ?_, ?_⟩
    · refine ⟨_, rfl, _, rfl, _, _, rfl, rfl, ?_⟩
      refine ⟨_, rfl, .inl ⟨_, rfl, _, rfl, _, d, dx, _, rfl, rfl, hd3, d, size, _, rfl, hD3, hs0, ⟨by omega, by omega⟩, ?_⟩⟩
      refine ⟨_, rfl, .inl ⟨_, rfl, _, rfl, _, d, dx, _, rfl, rfl, hd3, d, size, _, rfl, hD3, hs0, ⟨by omega, by omega⟩, ?_⟩⟩
      refine ⟨_, _, rfl, rfl, _, rfl, ?_⟩
      have e := m_back (a := a) (b := b) hs0
      by_cases h : a % size = b % size
      · rw [if_pos h] at e
        exact iteD h ⟨_, _, rfl, rfl, _, rfl, iteNS e ⟨rfl, rfl⟩⟩
      · rw [if_neg h] at e
        exact iteDF h ⟨_, rfl, _, _, rfl, rfl, _, rfl, iteNS e ⟨rfl, rfl⟩⟩
    · rintro σ H4 ⟨rfl, rfl⟩
      have t1 := hm (b - a)
      have t2 := hm (c - b)
      refine ⟨_, rfl, _, rfl, d, dx, _, rfl, hd3, dayF_no _ (by decide +kernel), _, rfl, _, rfl, d, size, _, _, rfl, hD3, hs0, ⟨by omega, by omega⟩, ⟨by omega, by omega⟩, ?_⟩
      refine ⟨_, _, rfl, rfl, .inl ⟨_, rfl, _, rfl, _, d, dx, _, rfl, rfl, hd3, d, size, _, rfl, hD3, hs0, ⟨by omega, by omega⟩, ?_⟩⟩
      refine ⟨_, rfl, d, dx, _, rfl, hd3, dayF_no _ (by decide +kernel), _, rfl, _, rfl, d, size, _, _, rfl, hD3, hs0, ⟨by omega, by omega⟩, ⟨by omega, by omega⟩, ?_⟩
      refine ⟨_, _, rfl, rfl, _, rfl, iteNS m_row ?_⟩
      refine ⟨_, rfl, _, rfl, _, _, rfl, rfl, .inl ⟨_, rfl, _, rfl, _, d, dx, _, rfl, rfl, hd3, d, size, _, rfl, hD3, hs0, ⟨by omega, by omega⟩, ?_⟩⟩
      refine ⟨_, rfl, .inl ⟨_, rfl, _, rfl, _, d, dx, _, rfl, rfl, hd3, d, size, _, rfl, hD3, hs0, ⟨by omega, by omega⟩, ?_⟩⟩
      refine ⟨_, _, rfl, rfl, _, rfl, iteNS m_there ?_⟩
      -- days
      refine ⟨_, rfl, _, _, rfl, rfl, ⟨by decide, by decide, by decide⟩, p, l, ns, _, _, rfl, hP3, by omega, ⟨by decide, by decide⟩, fun n H4 hn hP4 hB4 => ?_⟩
      have e6 : (10 : Int) ^ Int.toNat 6 = 1000000 := by decide
      have e5 : (10 : Int) ^ Int.toNat 5 = 100000 := by decide
      rw [e6] at hn
      refine ⟨_, _, rfl, rfl, ⟨by decide, by decide, by decide⟩, _, _, rfl, rfl, ?_⟩
      have hD4 := hD3.but hB4 hdp
      obtain ⟨dy, hd4⟩ := id hD4
      have hz : -1000000 ≤ n - 10 ^ Int.toNat 5 ∧ n - 10 ^ Int.toNat 5 ≤ 1000000 := by
        rw [e5]
        omega
      have hzs : -(10 ^ 20) ≤ (n - 10 ^ Int.toNat 5) * size ∧ (n - 10 ^ Int.toNat 5) * size ≤ 10 ^ 20 := by
        have h1 : (n - 10 ^ Int.toNat 5) * size ≤ 1000000 * size := Int.mul_le_mul_of_nonneg_right hz.2 (by omega)
        have h2 : -1000000 * size ≤ (n - 10 ^ Int.toNat 5) * size := Int.mul_le_mul_of_nonneg_right hz.1 (by omega)
        omega
      have far : ∀ i : Int, CMul (n - 10 ^ Int.toNat 5) size := fun _ => .inr ⟨by omega, by omega⟩
      refine ⟨_, rfl, _, rfl, _, rfl, _, _, rfl, rfl, far 0, _, _, rfl, rfl, .inl ⟨_, rfl, _, rfl, _, d, dy, _, rfl, rfl, hd4, d, size, _, rfl, hD4, hs0, ⟨by omega, by omega⟩, ?_⟩⟩
      refine ⟨_, rfl, .inl ⟨_, rfl, _, rfl, _, d, dy, _, rfl, rfl, hd4, d, size, _, rfl, hD4, hs0, ⟨by omega, by omega⟩, ?_⟩⟩
      refine ⟨_, _, rfl, rfl, _, rfl, iteNS m_days ?_⟩
      refine ⟨_, rfl, _, rfl, _, rfl, _, _, rfl, rfl, far 0, _, _, rfl, rfl, _, rfl, _, d, dy, _, rfl, rfl, hd4, d, size, _, rfl, hD4, ⟨by omega, by omega⟩, ⟨by omega, by omega⟩, ?_⟩
      refine ⟨_, rfl, _, rfl, _, d, dy, _, rfl, rfl, hd4, d, size, _, rfl, hD4, ⟨by omega, by omega⟩, ⟨by omega, by omega⟩, ?_⟩
      refine ⟨_, rfl, _, _, rfl, rfl, _, _, rfl, rfl, _, rfl, iteNS (m_daysq hs0) ?_⟩
      refine ⟨_, rfl, d, dy, _, rfl, hd4, dayF_no _ (by decide +kernel), _, rfl, _, rfl, _, rfl, _, _, rfl, rfl, far 0, _, _, rfl, rfl, ?_⟩
      refine ⟨_, rfl, _, rfl, _, rfl, _, _, rfl, rfl, far 0, _, _, rfl, rfl, d, size, _, _, rfl, hD4, hs0, ⟨by omega, by omega⟩, ⟨by omega, by omega⟩, ?_⟩
      refine ⟨_, rfl, _, _, rfl, rfl, _, rfl, iteD m_far ?_⟩
      have t3 := hm a
      refine ⟨_, rfl, .inl ⟨_, rfl, _, rfl, _, d, dy, _, rfl, rfl, hd4, d, size, _, rfl, hD4, hs0, ⟨by omega, by omega⟩, ?_⟩⟩
      refine .inl ⟨_, rfl, _, rfl, _, d, dy, _, rfl, rfl, hd4, d, size, _, rfl, hD4, hs0, ⟨by omega, by omega⟩, ?_⟩
      refine ⟨_, rfl, .inl ⟨_, rfl, _, rfl, _, d, dy, _, rfl, rfl, hd4, d, size, _, rfl, hD4, hs0, ⟨by omega, by omega⟩, ?_⟩⟩
      refine ⟨_, _, rfl, rfl, ?_⟩
      show Q (.bl (decide (a % size % size = a % size))) H4
      rw [decide_eq_true m_twice]
      exact k H4 (hP4.mono (by omega)) (hB03.trans hB4)
theorem c_law_long_right (T : Txt K mg ADay) : CalF P w K mg base 7 "_law_long_right" ["pen", "day", "size", "many"] (spLong ADay) := by
  have c_law_moment := c_law_moment (P := P) (w := w) (base := base) T
  have c_Day_forward := c_Day_forward (P := P) (w := w) (base := base) T
  have c_Day___rmod__ := c_Day___rmod__ (P := P) (w := w) (base := base) T
  have c_Day___rfloordiv__ := c_Day___rfloordiv__ (P := P) (w := w) (base := base) T
  have c_Day___mul__ := c_Day___mul__ (P := P) (w := w) (base := base) T
  have c_Day___rmul__ := c_Day___rmul__ (P := P) (w := w) (base := base) T
  have c_Day___eq__ := c_Day___eq__ (P := P) (w := w) (base := base) T
  refine T.d_law_long_right.ok sc_law_long_right (fun vs H Q E h => ?_) (fun f cdv A outer s H vs Q E hr h => ?_)
  · obtain ⟨p, l, ns, b, d, size, many, rfl, _⟩ := h
    rfl
  · obtain ⟨p, l, ns, b, d, size, many, rfl, hP, hb, hD, hdp, hs, hm, hsm, k⟩ := h
    have hs0 : 0 < size := by omega
    have hm0 : 0 < many := by omega
    have hL0 : 0 < size * many := Int.mul_pos hs0 hm0
    have cm1 : ∀ x : Int, CMul size x := fun x => .inl ⟨by omega, by omega⟩
    have cm2 : ∀ x : Int, CMul x many := fun x => .inr ⟨by omega, by omega⟩
    have dv : ∀ x : Int, CDivW x many := fun x => wide_div (b := 41) hm0 (by omega) (by decide) (by decide)
    refine ⟨_, (pss_cons (ps_set (i := 4) sc_law_long_right.nd rfl (Or.inl rfl) (pe_op (ow_mulL T.R_Day c_Day___mul__ hr T.m_Day___rmul__) (pv 1) (pv 3)))
      (pss_cons (ps_if (PW.pt (pw_or (pt_cmpR (ow_ne c_Day___eq__ hr T.ne_Day T.ob_Day) (pv 4) (pe_op (ow_mulR T.R_Day c_Day___rmul__ hr T.m_Day___mul__) (pv 3) (pv 1)) (nomark _)) (pw_or (pt_cmpR op_nei (pe_fld (pv 4) rfl) (pe_op op_mul (pv 2) (pv 3)) (nomark _)) (pw_or1 (pt_cmpR op_ne (pe_cmpR (ow_eq c_Day___eq__ hr) (pv 1) (pv 4) (nomark _)) (pe_cmpR op_eqi (pv 3) pe_int (nomark _)) (nomark _)))))) (pss_one (ps_ret pe_bl)) pss_nil)
      (pss_cons (ps_for PassesOwn.never rfl (pi_range1 rfl T.b_range (pa_cons pe_int pa_nil)) (pg_name (i := 5) sc_law_long_right.nd rfl (Or.inl rfl)) (pss_cons (ps_set (i := 6) sc_law_long_right.nd rfl (Or.inl rfl) (pe_f c_law_moment hr (pa_cons (pv 0) (pa_cons (pe_op op_mul (pv 2) (pv 3)) pa_nil))))
      (pss_cons (ps_if (PW.pt (pw_or (pt_cmpR op_nei (pe_op (ow_fdiv T.R_Day c_Day___rfloordiv__ hr T.no_Day___floordiv__) (pv 6) (pv 4)) (pe_op op_fdivW (pe_op (ow_fdiv T.R_Day c_Day___rfloordiv__ hr T.no_Day___floordiv__) (pv 6) (pv 1)) (pv 3)) (nomark _)) (pw_or1 (pt_cmpR op_nei (pe_op (ow_mod T.R_Day c_Day___rmod__ hr T.no_Day___mod__) (pe_callTy call_int1 (by rfl) T.b_int (by decide +kernel) (pa_cons (pv 6) pa_nil)) (pv 4)) (pe_op op_add (pe_op (ow_mod T.R_Day c_Day___rmod__ hr T.no_Day___mod__) (pe_callTy call_int1 (by rfl) T.b_int (by decide +kernel) (pa_cons (pv 6) pa_nil)) (pv 1)) (pe_op op_mul (pv 2) (pe_op op_sub (pe_op (ow_fdiv T.R_Day c_Day___rfloordiv__ hr T.no_Day___floordiv__) (pv 6) (pv 1)) (pe_op op_mul (pe_op (ow_fdiv T.R_Day c_Day___rfloordiv__ hr T.no_Day___floordiv__) (pv 6) (pv 4)) (pv 3))))) (nomark _))))) (pss_one (ps_ret pe_bl)) pss_nil)
      (pss_cons (ps_set (i := 7) sc_law_long_right.nd rfl (Or.inl rfl) (pe_f c_law_moment hr (pa_cons (pv 0) (pa_cons (pv 2) pa_nil))))
      (pss_cons (ps_set (i := 8) sc_law_long_right.nd rfl (Or.inl rfl) (pe_m c_Day_forward T.C_Day.cl hr (pv 4) (pa_cons (pv 6) (pa_cons (pv 7) pa_nil))))
      (pss_one (ps_if (PW.pt (pw_or (pt_cmpR op_nei (pe_op (ow_mod T.R_Day c_Day___rmod__ hr T.no_Day___mod__) (pe_callTy call_int1 (by rfl) T.b_int (by decide +kernel) (pa_cons (pv 8) pa_nil)) (pv 1)) (pe_m c_Day_forward T.C_Day.cl hr (pv 1) (pa_cons (pv 6) (pa_cons (pv 7) pa_nil))) (nomark _)) (pw_or (pt_cmpR op_lt (pv 8) (pe_m c_Day_forward T.C_Day.cl hr (pv 1) (pa_cons (pv 6) (pa_cons (pv 7) pa_nil))) (nomark _)) (pw_or1 (pt_cmpR op_ge (pv 8) (pe_op op_mul (pv 2) (pv 3)) (nomark _)))))) (pss_one (ps_ret pe_bl)) pss_nil)))))))
      (pss_one (ps_ret pe_bl))))), ?_⟩
    obtain ⟨op, hop⟩ := hP.at_
    obtain ⟨dx, hd⟩ := id hD
    refine ⟨_, rfl, _, rfl, _, d, dx, _, rfl, rfl, hd, d, size, many, rfl, hD, hs, ⟨by omega, by omega⟩, fun q H1 nq s1 hL => ?_⟩
    have hqp : q ≠ p := (ne_of_none hop nq).symm
    have hD1 := hD.same s1
    obtain ⟨dx1, hd1⟩ := id hD1
    refine ⟨_, rfl, _, rfl, _, rfl, _, d, dx1, _, rfl, rfl, hd1, d, size, many, rfl, hD1, hs, ⟨by omega, by omega⟩, fun q2 H2 nq2 s2 hL2 => ?_⟩
    have hLq := hL.same s2
    have hD2 := hD1.same s2
    obtain ⟨dq, hq⟩ := id hLq
    obtain ⟨dq2, hq2⟩ := id hL2
    obtain ⟨dx2, hd2⟩ := id hD2
    refine ⟨q, q2, _, _, _, _, rfl, rfl, hq, hq2, q, q2, _, _, rfl, hLq, hL2, _, rfl, _, rfl, iteNS rfl ?_⟩
    refine ⟨_, rfl, _, _, _, _, _, rfl, hq, T.C_Day.cl, T.na_Day_length, dayF_len _, _, rfl, _, rfl, _, _, rfl, rfl, cm1 _, _, _, rfl, rfl, _, rfl, iteNS rfl ?_⟩
    have eqm : (decide (size = size * many)) = decide (many = 1) := by
      by_cases h : many = 1
      · subst h
        simp
      · have : ¬ size = size * many := fun e => h (by
          have z : size * many = size * 1 := by omega
          exact Int.eq_of_mul_eq_mul_left (by omega) z)
        simp [h, this]
    refine ⟨_, rfl, _, rfl, d, q, _, _, _, _, rfl, rfl, hd2, hq, d, q, _, _, rfl, hD2, hLq, _, rfl, _, _, rfl, rfl, rfl, _, rfl, iteNS (by rw [eqm]) ?_⟩
    have hP2 := (hP.same s1).same s2
    have hB2 : But p H H2 := But.of (s1.trans s2)
    refine ⟨3, rfl, by decide, by decide, for_range (n := 3) (fun i σ H' => ∃ t x y wt : Option V, σ = [some (.ref p), some (.ref d), some (.int size), some (.int many), some (.ref q), t, x, y, wt] ∧ Pn p l ns (b + 10 * i) H' ∧ But p H2 H')
      ⟨_, _, _, _, rfl, hP2.mono (by omega), But.rfl'⟩ ?_ ?_⟩
    · rintro i σ H3 hi ⟨t, x0, y0, w0, rfl, hP3, hB3⟩
      refine ⟨_, rfl, _, rfl, _, rfl, _, _, rfl, rfl, cm1 _, p, l, ns, _, _, rfl, hP3, by omega, ⟨by omega, by omega⟩, fun x H4 hx hP4 hB4 => ?_⟩
      have hB4' := hB3.trans hB4
      have hD4 := hD2.but hB4' hdp
      have hL4 := hLq.but hB4' hqp
      obtain ⟨dd, hd4⟩ := id hD4
      obtain ⟨dl, hq4⟩ := id hL4
      refine ⟨_, rfl, _, rfl, _, q, dl, _, rfl, rfl, hq4, q, _, _, rfl, hL4, ⟨by omega, by omega⟩, ⟨by omega, by omega⟩, ?_⟩
      refine ⟨_, rfl, _, rfl, _, d, dd, _, rfl, rfl, hd4, d, size, _, rfl, hD4, ⟨by omega, by omega⟩, ⟨by omega, by omega⟩, ?_⟩
      refine ⟨_, rfl, _, _, rfl, rfl, dv _, _, _, rfl, rfl, _, rfl, iteNS (m_longq hs0) ?_⟩
      refine ⟨_, rfl, .inl ⟨_, rfl, _, rfl, _, q, dl, _, rfl, rfl, hq4, q, _, _, rfl, hL4, hL0, ⟨by omega, by omega⟩, ?_⟩⟩
      refine ⟨_, rfl, .inl ⟨_, rfl, _, rfl, _, d, dd, _, rfl, rfl, hd4, d, size, _, rfl, hD4, hs0, ⟨by omega, by omega⟩, ?_⟩⟩
      refine ⟨_, rfl, _, rfl, _, rfl, _, d, dd, _, rfl, rfl, hd4, d, size, _, rfl, hD4, ⟨by omega, by omega⟩, ⟨by omega, by omega⟩, ?_⟩
      refine ⟨_, rfl, _, rfl, _, q, dl, _, rfl, rfl, hq4, q, _, _, rfl, hL4, ⟨by omega, by omega⟩, ⟨by omega, by omega⟩, ?_⟩
      refine ⟨_, rfl, _, _, rfl, rfl, cm2 _, _, _, rfl, rfl, _, _, rfl, rfl, cm1 _, _, _, rfl, rfl, _, _, rfl, rfl, _, rfl, iteNS m_longr ?_⟩
      refine ⟨_, rfl, _, rfl, p, l, ns, _, _, rfl, hP4, by omega, ⟨by omega, by omega⟩, fun y H5 hy hP5 hB5 => ?_⟩
      have hB5' := hB4'.trans hB5
      have hD5 := hD2.but hB5' hdp
      have hL5 := hLq.but hB5' hqp
      obtain ⟨dd5, hd5⟩ := id hD5
      obtain ⟨dl5, hq5⟩ := id hL5
      refine ⟨_, rfl, q, dl5, _, rfl, hq5, dayF_no _ (by decide +kernel), _, rfl, _, rfl, q, _, _, _, rfl, hL5, hL0, ⟨by omega, by omega⟩, ⟨by omega, by omega⟩, ?_⟩
      have w0 : 0 ≤ (y - x) % (size * many) := Int.emod_nonneg _ (by omega)
      have w1 : (y - x) % (size * many) < size * many := Int.emod_lt_of_pos _ hL0
      have w2 : (y - x) % size ≤ (y - x) % (size * many) := m_waitle hs0 hm0
      refine ⟨_, rfl, .inl ⟨_, rfl, _, rfl, _, d, dd5, _, rfl, rfl, hd5, d, size, _, rfl, hD5, hs0, ⟨by omega, by omega⟩, ?_⟩⟩
      refine ⟨_, rfl, d, dd5, _, rfl, hd5, dayF_no _ (by decide +kernel), _, rfl, _, rfl, d, size, _, _, rfl, hD5, hs0, ⟨by omega, by omega⟩, ⟨by omega, by omega⟩, ?_⟩
      refine ⟨_, _, rfl, rfl, _, rfl, iteNS m_wait ?_⟩
      refine ⟨_, rfl, _, rfl, d, dd5, _, rfl, hd5, dayF_no _ (by decide +kernel), _, rfl, _, rfl, d, size, _, _, rfl, hD5, hs0, ⟨by omega, by omega⟩, ⟨by omega, by omega⟩, ?_⟩
      refine ⟨_, _, rfl, rfl, _, rfl, iteDF (by omega) ?_⟩
      refine ⟨_, rfl, _, rfl, _, rfl, _, _, rfl, rfl, cm1 _, _, _, rfl, rfl, _, rfl, iteDF (by omega) ?_⟩
      exact ⟨_, _, _, _, rfl, hP5.mono (by omega), hB5'⟩
    · rintro σ H3 ⟨t, x0, y0, w0, rfl, hP3, hB3⟩
      exact k H3 (hP3.mono (by omega)) (hB2.trans hB3)
end
/-! ### the law -/
def spLaw (K : PySem.W.Frag) : Sp := fun vs H Q _ => ∃ (a : Addr) (ns : List Int), vs = [.ref a] ∧ SqL K H a (ns.map V.int) ∧ ns.length ≤ 63 ∧ ∀ H', Q (.bl true) H'
section
variable {P : Program} {w : World} {K : PySem.W.Frag} {mg : Str → Option Value} {base : Heap} {ADay : Addr}
theorem ok_law {f : Addr} {fd : FuncData} (F : Fun K "law" "law" s_law f fd) (T : Txt K mg ADay) : FnOk P w K mg base CX0 8 f fd ["script"] (spLaw K) := by
  have c_law_pen := c_law_pen (P := P) (w := w) (base := base) T
  have c_law_draw := c_law_draw (P := P) (w := w) (base := base) T
  have c_law_pick := c_law_pick (P := P) (w := w) (base := base) T
  have c_law_waits_right := c_law_waits_right (P := P) (w := w) (base := base) T
  have c_law_long_right := c_law_long_right (P := P) (w := w) (base := base) T
  have n_Day := n_Day (P := P) (w := w) (base := base) T
  have c_Day___mul__ := c_Day___mul__ (P := P) (w := w) (base := base) T
  have c_Day___rmul__ := c_Day___rmul__ (P := P) (w := w) (base := base) T
  have c_Day___eq__ := c_Day___eq__ (P := P) (w := w) (base := base) T
  refine F.ok sc_law (fun vs H Q E h => ?_) (fun cdv A outer s H vs Q E hr h => ?_)
  · obtain ⟨a, ns, rfl, _⟩ := h
    rfl
  · obtain ⟨a, ns, rfl, hS, hlen, k⟩ := h
    refine ⟨_, (pss_cons (ps_set (i := 1) sc_law.nd rfl (Or.inl rfl) (pe_f c_law_pen hr (pa_cons (pv 0) pa_nil)))
      (pss_cons (ps_for PassesOwn.never rfl (pi_range1 rfl T.b_range (pa_cons pe_int pa_nil)) (pg_name (i := 2) sc_law.nd rfl (Or.inl rfl)) (pss_cons (ps_set (i := 3) sc_law.nd rfl (Or.inl rfl) (pe_f c_law_pick hr (pa_cons (pv 1) (pa_cons (pe_lst (pa_cons pe_int (pa_cons pe_int (pa_cons pe_int (pa_cons pe_int (pa_cons (pe_op op_add pe_int (pe_f c_law_draw hr (pa_cons (pv 1) (pa_cons pe_int pa_nil)))) (pa_cons (pe_op op_sub (pe_op op_pow pe_int pe_int) pe_int) (pa_cons (pe_op op_fdiv (pe_op op_pow pe_int pe_int) pe_int) pa_nil)))))))) pa_nil))))
      (pss_cons (ps_set (i := 4) sc_law.nd rfl (Or.inl rfl) (pe_f c_law_pick hr (pa_cons (pv 1) (pa_cons (pe_lst (pa_cons pe_int (pa_cons pe_int (pa_cons pe_int (pa_cons pe_int (pa_cons (pe_op op_add pe_int (pe_f c_law_draw hr (pa_cons (pv 1) (pa_cons pe_int pa_nil)))) pa_nil)))))) pa_nil))))
      (pss_cons (ps_if (PW.pt (pw_or (pt_not (pt_val (pe_f c_law_waits_right hr (pa_cons (pv 1) (pa_cons (pe_w n_Day hr (pa_cons (pv 3) pa_nil)) (pa_cons (pv 3) pa_nil)))))) (pw_or1 (pt_not (pt_val (pe_f c_law_long_right hr (pa_cons (pv 1) (pa_cons (pe_w n_Day hr (pa_cons (pv 3) pa_nil)) (pa_cons (pv 3) (pa_cons (pv 4) pa_nil)))))))))) (pss_one (ps_ret pe_bl)) pss_nil)
      (pss_cons (ps_set (i := 5) sc_law.nd rfl (Or.inl rfl) (pe_op (ow_mulL T.R_Day c_Day___mul__ hr T.m_Day___rmul__) (pe_w n_Day hr (pa_cons (pv 3) pa_nil)) (pv 4)))
      (pss_cons (ps_if (pt_cmpR (ow_ne c_Day___eq__ hr T.ne_Day T.ob_Day) (pe_op (ow_mulR T.R_Day c_Day___rmul__ hr T.m_Day___mul__) pe_int (pe_op (ow_mulL T.R_Day c_Day___mul__ hr T.m_Day___rmul__) (pe_w n_Day hr (pa_cons (pv 3) pa_nil)) pe_int)) (pe_op (ow_mulL T.R_Day c_Day___mul__ hr T.m_Day___rmul__) (pe_w n_Day hr (pa_cons (pv 3) pa_nil)) pe_int) (nomark _)) (pss_one (ps_ret pe_bl)) pss_nil)
      (pss_one (ps_if (pt_not (pt_val (pe_f c_law_waits_right hr (pa_cons (pv 1) (pa_cons (pv 5) (pa_cons (pe_op op_mul (pv 3) (pv 4)) pa_nil)))))) (pss_one (ps_ret pe_bl)) pss_nil))))))))
      (pss_one (ps_ret pe_bl)))), ?_⟩
    refine ⟨_, rfl, a, ns, rfl, hS, hlen, fun p l ms H1 np s1 hP => ?_⟩
    refine ⟨7, rfl, by decide, by decide, for_range (n := 7) (fun i σ H' => ∃ t u v x : Option V, σ = [some (.ref a), some (.ref p), t, u, v, x] ∧ Pn p l ms (66 * i) H') ⟨_, _, _, _, rfl, hP.mono (by omega)⟩ ?_ ?_⟩
    · rintro i σ H2 hi ⟨t, u, v, x0, rfl, hP2⟩
      -- size
      refine ⟨_, rfl, _, rfl, p, l, ms, _, _, rfl, hP2, by omega, ⟨by decide, by decide⟩, fun n1 H3 hn1 hP3 hB3 => ?_⟩
      refine ⟨_, _, rfl, rfl, _, _, rfl, rfl, ⟨by decide, by decide, by decide⟩, _, _, rfl, rfl, _, _, rfl, rfl, ⟨by decide, by decide, by decide⟩, _, _, rfl, rfl, ⟨by decide, by decide⟩, (by show 7 ≤ sizeLine; decide), fun q nq => ?_⟩
      obtain ⟨op, hop⟩ := hP3.at_
      refine ⟨p, l, ms, _, q, _, rfl, hP3.same (fun c o e => by rw [upd_ne (ne_of_none e nq)]; exact e), by omega, SqL.of upd_same, (ne_of_none hop nq).symm, ⟨by simp, by simp⟩, fun y H4 hy hP4 hB4 => ?_⟩
      obtain ⟨size, rfl, hs⟩ : ∃ z, y = V.int z ∧ (1 ≤ z ∧ z ≤ 142857142857) := by
        simp only [List.mem_cons, List.not_mem_nil, or_false] at hy
        have e6 : (10 : Int) ^ Int.toNat 6 - 3 = 999997 := by decide
        have e12 : (10 : Int) ^ Int.toNat 12 / 7 = 142857142857 := by decide
        rw [e6, e12] at hy
        rcases hy with rfl | rfl | rfl | rfl | rfl | rfl | rfl <;> exact ⟨_, rfl, by omega, by omega⟩
      -- many
      refine ⟨_, rfl, _, rfl, p, l, ms, _, _, rfl, hP4, by omega, ⟨by decide, by decide⟩, fun n2 H5 hn2 hP5 hB5 => ?_⟩
      refine ⟨_, _, rfl, rfl, (by show 5 ≤ sizeLine; decide), fun q nq => ?_⟩
      obtain ⟨op, hop⟩ := hP5.at_
      refine ⟨p, l, ms, _, q, _, rfl, hP5.same (fun c o e => by rw [upd_ne (ne_of_none e nq)]; exact e), by omega, SqL.of upd_same, (ne_of_none hop nq).symm, ⟨by simp, by simp⟩, fun y H6 hy hP6 hB6 => ?_⟩
      obtain ⟨many, rfl, hm⟩ : ∃ z, y = V.int z ∧ (1 ≤ z ∧ z ≤ 7) := by
        simp only [List.mem_cons, List.not_mem_nil, or_false] at hy
        rcases hy with rfl | rfl | rfl | rfl | rfl <;> exact ⟨_, rfl, by omega, by omega⟩
      have hsm : 1 ≤ size * many ∧ size * many ≤ 1000000000000 := by
        have h1 : size * many ≤ size * 7 := Int.mul_le_mul_of_nonneg_left hm.2 (by omega)
        have h2 : size * 1 ≤ size * many := Int.mul_le_mul_of_nonneg_left hm.1 (by omega)
        omega
      have hs' : 1 ≤ size ∧ size ≤ 1000000000000 := by omega
      -- the waits, the long days
      refine ⟨_, rfl, _, rfl, size, rfl, hs', fun d H7 nd7 s7 hD7 => ?_⟩
      obtain ⟨op, hop⟩ := hP6.at_
      refine ⟨_, rfl, p, l, ms, _, d, size, rfl, hP6.same s7, by omega, hD7, (ne_of_none hop nd7).symm, hs', fun H8 hP8 hB8 => ?_⟩
      refine ⟨_, rfl, iteF ?_⟩
      refine ⟨_, rfl, _, rfl, size, rfl, hs', fun d H9 nd9 s9 hD9 => ?_⟩
      obtain ⟨op, hop⟩ := hP8.at_
      refine ⟨_, rfl, _, rfl, p, l, ms, _, d, size, many, rfl, hP8.same s9, by omega, hD9, (ne_of_none hop nd9).symm, hs', ⟨by omega, by omega⟩, hsm.2, fun H10 hP10 hB10 => ?_⟩
      refine ⟨_, rfl, iteF ?_⟩
      -- some
      refine ⟨_, rfl, size, rfl, hs', fun d H11 nd11 s11 hD11 => ?_⟩
      obtain ⟨dx, hd⟩ := id hD11
      refine ⟨_, rfl, _, d, dx, _, rfl, rfl, hd, d, size, many, rfl, hD11, hs', hsm, fun e H12 ne12 s12 hE12 => ?_⟩
      have hP12 := (hP10.same s11).same s12
      -- six days
      refine ⟨_, rfl, size, rfl, hs', fun d H13 nd13 s13 hD13 => ?_⟩
      obtain ⟨dx, hd⟩ := id hD13
      refine ⟨_, d, dx, _, rfl, rfl, hd, d, size, 3, rfl, hD13, hs', ⟨by omega, by omega⟩, fun q1 H14 nq1 s14 hQ1 => ?_⟩
      obtain ⟨dx, hd⟩ := id hQ1
      refine ⟨_, q1, dx, _, rfl, rfl, hd, q1, _, 2, rfl, hQ1, ⟨by omega, by omega⟩, ⟨by omega, by omega⟩, fun q2 H15 nq2 s15 hQ2 => ?_⟩
      refine ⟨_, rfl, size, rfl, hs', fun d H16 nd16 s16 hD16 => ?_⟩
      obtain ⟨dx, hd⟩ := id hD16
      refine ⟨_, d, dx, _, rfl, rfl, hd, d, size, 6, rfl, hD16, hs', ⟨by omega, by omega⟩, fun q3 H17 nq3 s17 hQ3 => ?_⟩
      have hQ2' := (hQ2.same s16).same s17
      obtain ⟨d2, hq2⟩ := id hQ2'
      obtain ⟨d3, hq3⟩ := id hQ3
      refine ⟨q2, q3, _, _, _, _, rfl, rfl, hq2, hq3, q2, q3, _, _, rfl, hQ2', hQ3, _, rfl, _, rfl, iteNS (by omega) ?_⟩
      have sE : Same H12 H17 := (((s13.trans s14).trans s15).trans s16).trans s17
      have hE17 := hE12.same sE
      have hP17 := hP12.same sE
      obtain ⟨op, hop⟩ := hP10.at_
      have nep : e ≠ p := (ne_of_none (s11 _ _ hop) ne12).symm
      refine ⟨_, rfl, _, rfl, _, rfl, _, rfl, _, _, rfl, rfl, .inl ⟨by omega, by omega⟩, p, l, ms, _, e, _, rfl, hP17, by omega, hE17, nep, hsm, fun H18 hP18 hB18 => ?_⟩
      exact ⟨_, rfl, iteF ⟨_, _, _, _, rfl, hP18.mono (by omega)⟩⟩
    · rintro σ H2 ⟨t, u, v, x0, rfl, hP2⟩
      exact k H2
end
theorem law_end {l : PySem.W.OpenLaw} {w : World} {K : PySem.W.Frag} {mg : Str → Option Value} {fa : Addr} {ADay : Addr} (T : Txt K mg ADay) (hfa : mg "law" = some (.ref fa)) :
    ∃ fd : FuncData, (∀ (s : Shared) (v : Value), BindsTo s fd ⟨[v], []⟩ [("script", v)]) ∧ ∀ base : Heap, K.In base → base.Ns mainGlobals mg → FnOk l.prog w K mg base CX0 8 fa fd ["script"] (spLaw K) := by
  obtain ⟨f, fd, F, hm, b⟩ := T.d_law.ex
  have e := hfa.symm.trans hm
  cases e
  obtain ⟨oc, od, kV, doc, pm, an, cdv, ct, osl, rfl, lk, hcd⟩ := id F.ex
  exact ⟨_, fun s v => .of_eq rfl, fun base _ _ => ok_law F T⟩
theorem walk {l : PySem.W.OpenLaw} {q : Program} {loose : List Str} {XP : (Str → Option Value) → Heap → Prop} {YP : World → Heap → Prop} {d : DefRec} {K : Params → PySem.W.Frag} (hn : l.most = some 63) (hdf : d.params.defaults = [])
    (hY : ∀ (w : World) (h : Heap), YP w h → (K w.params).In h)
    (F : ∀ (w : World) (mg : Str → Option Value) (fa : Addr) (h : Heap), (K w.params).In h → h.Ns mainGlobals mg → mg d.name = some (.ref fa) →
      ∃ fd : FuncData, (∀ (s : Shared) (u : Value), BindsTo s fd ⟨[u], []⟩ [("script", u)]) ∧ ∀ base : Heap, (K w.params).In base → base.Ns mainGlobals mg → FnOk l.prog w (K w.params) mg base CX0 8 fa fd ["script"] (spLaw (K w.params))) :
    PySem.W.WalkO q loose XP YP l.row.toRowW d [] (fun f vs => PySem.call f vs) :=
  L2.walk_of (n := 63) (k := 8) (x := "script") (CX := fun _ => CX0) (sp := fun w => spLaw (K w.params)) hn (by decide) hdf ⟨rfl, by decide, by decide⟩ hY F (fun _ _ a ns hl _ hS => ⟨a, ns, rfl, hS, hl, fun _ => rfl⟩) fun _ _ _ _ _ z => z
end OLP
open PySem PySem.W PyProof.Rows
set_option maxRecDepth 100000 in
set_option maxHeartbeats 0 in
theorem PySem.Challenge.cw_onelongturn_k04_whole_days_that_come_rou_holds : PySem.Challenge.rw_onelongturn_k04_whole_days_that_come_rou.Holds := by
  w_on; o_law; k_head; (case hw => w_witness2)
  k_fill
  refine OLP.walk (l := PySem.Challenge.rw_onelongturn_k04_whole_days_that_come_rou) rfl rfl (fun w h Y => PySem.W.kIn_of Y) ?F
  case F =>
    intro w mg fa h KX G hmg
    refine' OLP.law_end (OLP.Txt.mk ?d_is_int ?d_is_number_from_one ?d_is_moment ?m_Day___init__ ?m_Day___rmod__ ?m_Day___rfloordiv__ ?m_Day_forward ?m_Day___mul__ ?m_Day___rmul__ ?m_Day___eq__ ?d_times_as_long ?d_law_pen ?d_law_draw ?d_law_pick ?d_law_moment ?d_law_waits_right ?d_law_long_right ?d_law ?C_Day ?R_Day ?no_Day___mod__ ?no_Day___floordiv__ ?ne_Day ?ob_Day ?I_Day ?na_Day_length ?g_MOST ?g_BEYOND_MOMENTS ?b_isinstance ?b_int ?b_bool ?b_list ?b_len ?b_abs ?b_range) hmg
    (case C_Day => (refine' OL.ClsT.of KX G ?a ?b ?c ?d ?e ?f ?g; (case a => k_is); (case b => k_is); (case c => k_is); (case d => k_is); (case e => k_is); (case f => k_is); (case g => k_is)))
    (case d_is_int => (refine' OL.DefT.of KX G ?a ?l ?c ?k (fun _ _ _ _ _ _ us hl => match us, hl with | [_], _ => rfl); (case a => k_is); (case l => k_is); (case c => k_is); (case k => k_is)))
    (case d_is_number_from_one => (refine' OL.DefT.of KX G ?a ?l ?c ?k (fun _ _ _ _ _ _ us hl => match us, hl with | [_], _ => rfl); (case a => k_is); (case l => k_is); (case c => k_is); (case k => k_is)))
    (case d_is_moment => (refine' OL.DefT.of KX G ?a ?l ?c ?k (fun _ _ _ _ _ _ us hl => match us, hl with | [_], _ => rfl); (case a => k_is); (case l => k_is); (case c => k_is); (case k => k_is)))
    (case m_Day___init__ => (refine' OL.MethT.of ?a ?i ?l ?c ?k (fun _ _ _ _ _ _ us hl => match us, hl with | [_, _], _ => rfl); (case a => k_is); (case i => k_is); (case l => k_is); (case c => k_is); (case k => k_is)))
    (case m_Day___rmod__ => (refine' OL.MethT.of ?a ?i ?l ?c ?k (fun _ _ _ _ _ _ us hl => match us, hl with | [_, _], _ => rfl); (case a => k_is); (case i => k_is); (case l => k_is); (case c => k_is); (case k => k_is)))
    (case m_Day___rfloordiv__ => (refine' OL.MethT.of ?a ?i ?l ?c ?k (fun _ _ _ _ _ _ us hl => match us, hl with | [_, _], _ => rfl); (case a => k_is); (case i => k_is); (case l => k_is); (case c => k_is); (case k => k_is)))
    (case m_Day_forward => (refine' OL.MethT.of ?a ?i ?l ?c ?k (fun _ _ _ _ _ _ us hl => match us, hl with | [_, _, _], _ => rfl); (case a => k_is); (case i => k_is); (case l => k_is); (case c => k_is); (case k => k_is)))
    (case m_Day___mul__ => (refine' OL.MethT.of ?a ?i ?l ?c ?k (fun _ _ _ _ _ _ us hl => match us, hl with | [_, _], _ => rfl); (case a => k_is); (case i => k_is); (case l => k_is); (case c => k_is); (case k => k_is)))
    (case m_Day___rmul__ => (refine' OL.MethT.of ?a ?i ?l ?c ?k (fun _ _ _ _ _ _ us hl => match us, hl with | [_, _], _ => rfl); (case a => k_is); (case i => k_is); (case l => k_is); (case c => k_is); (case k => k_is)))
    (case m_Day___eq__ => (refine' OL.MethT.of ?a ?i ?l ?c ?k (fun _ _ _ _ _ _ us hl => match us, hl with | [_, _], _ => rfl); (case a => k_is); (case i => k_is); (case l => k_is); (case c => k_is); (case k => k_is)))
    (case d_times_as_long => (refine' OL.DefT.of KX G ?a ?l ?c ?k (fun _ _ _ _ _ _ us hl => match us, hl with | [_, _], _ => rfl); (case a => k_is); (case l => k_is); (case c => k_is); (case k => k_is)))
    (case d_law_pen => (refine' OL.DefT.of KX G ?a ?l ?c ?k (fun _ _ _ _ _ _ us hl => match us, hl with | [_], _ => rfl); (case a => k_is); (case l => k_is); (case c => k_is); (case k => k_is)))
    (case d_law_draw => (refine' OL.DefT.of KX G ?a ?l ?c ?k (fun _ _ _ _ _ _ us hl => match us, hl with | [_, _], _ => rfl); (case a => k_is); (case l => k_is); (case c => k_is); (case k => k_is)))
    (case d_law_pick => (refine' OL.DefT.of KX G ?a ?l ?c ?k (fun _ _ _ _ _ _ us hl => match us, hl with | [_, _], _ => rfl); (case a => k_is); (case l => k_is); (case c => k_is); (case k => k_is)))
    (case d_law_moment => (refine' OL.DefT.of KX G ?a ?l ?c ?k (fun _ _ _ _ _ _ us hl => match us, hl with | [_, _], _ => rfl); (case a => k_is); (case l => k_is); (case c => k_is); (case k => k_is)))
    (case d_law_waits_right => (refine' OL.DefT.of KX G ?a ?l ?c ?k (fun _ _ _ _ _ _ us hl => match us, hl with | [_, _, _], _ => rfl); (case a => k_is); (case l => k_is); (case c => k_is); (case k => k_is)))
    (case d_law_long_right => (refine' OL.DefT.of KX G ?a ?l ?c ?k (fun _ _ _ _ _ _ us hl => match us, hl with | [_, _, _, _], _ => rfl); (case a => k_is); (case l => k_is); (case c => k_is); (case k => k_is)))
    (case d_law => (refine' OL.DefT.of KX G ?a ?l ?c ?k (fun _ _ _ _ _ _ us hl => match us, hl with | [_], _ => rfl); (case a => k_is); (case l => k_is); (case c => k_is); (case k => k_is)))
    (case R_Day => (refine' ⟨?a, ?b, ?c⟩; (case a => k_is); (case b => k_is); (case c => k_is)))
    (case no_Day___mod__ => k_is)
    (case no_Day___floordiv__ => k_is)
    (case ne_Day => k_is)
    (case ob_Day => k_is)
    (case I_Day => (refine' ⟨?a, ?b, ?c, ?d⟩; (case a => k_is); (case b => k_is); (case c => k_is); (case d => k_is)))
    (case na_Day_length => k_is)
    (case g_MOST => (refine' OL.GlT.ofI KX G ?a; (case a => k_is)))
    (case g_BEYOND_MOMENTS => (refine' OL.GlT.ofI KX G ?a; (case a => k_is)))
    (case b_isinstance => (refine' PySem.W.mg_none_of KX G ?a; (case a => k_is)))
    (case b_int => (refine' PySem.W.mg_none_of KX G ?a; (case a => k_is)))
    (case b_bool => (refine' PySem.W.mg_none_of KX G ?a; (case a => k_is)))
    (case b_list => (refine' PySem.W.mg_none_of KX G ?a; (case a => k_is)))
    (case b_len => (refine' PySem.W.mg_none_of KX G ?a; (case a => k_is)))
    (case b_abs => (refine' PySem.W.mg_none_of KX G ?a; (case a => k_is)))
    (case b_range => (refine' PySem.W.mg_none_of KX G ?a; (case a => k_is)))

