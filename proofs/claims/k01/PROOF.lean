import PyProof.Rows.All
import Wide.All
import OpenK.AllK
import Wide.FinOn
import KE.KStateDown
import HandS.HeadHook2
import HandS.Head0
import HandS.Head1
import HandS.Head2
import HandS.HeadEnd
import HandS.ExcInit
import HandS.ExcIs
import HandS.ExcField
import HandS.MakeKw
import HandS.Words
import HandS.Defaults
import HandS.HeadHook4
import HandS.HeadWalk
import HandS.NestedK
import HandS.OwnEq
import HandS.Star
import HandS.SlotsOwn
import HandS.More
import HandS.IsInst
import HandS.ForMost
import HandS.Wide
import HandS.Walk
import HandS.Text
import HandS.Conv
import HandS.DictEq
import PyProof.EqKinds
import HandS.Zip
import HandS.TupAny
import HandS.Lambda
import HandS.TryMany
import KE.KDflt
import HandS.ExcBuiltin
import HandS.MakeKwOnly
import PySem.Challenge.RW_fillbehind_k01_whole_statements
set_option Elab.async false
set_option linter.all false
set_option maxRecDepth 100000
set_option maxHeartbeats 4000000
/-! An own exception class over ValueError (at any depth), its object held as a value: made by place and by name. -/
namespace PySem.VX
open PySem PySem.Calls PyProof.Rows PySem.HandSPX
section
variable {M : Model} {A : Around} {E : Value → Shared → Prop} {h : Heap} {g : Array GenState} {d : Drawn} {t : Nat} {os : OsState}
variable {nm q : Str} {C N : Addr} {bs bm bmB : List Value} {hdct : Bool} {sn : List Str} {sub : List Value} {ab : Bool} {col : Option Bool} {dd : Option Addr} {k0 k1 k2 k3 k5 : Option Value} {B newId initId : String}

theorem look_new (F : ExcBaseFacts B newId initId bmB) (same : ∀ Y : String, bm.contains (.type Y) = bmB.contains (.type Y)) {ps : List Value} {kw : List (Str × Value)} {Q : Unit → Shared → Prop}
    (hC : h.get? C = some (excClassObj nm q C N bs bm hdct sn sub ab col dd k0 k1 k2 k3 k5 newId)) (go : Q () ⟨h, g, d, t, os⟩) :
    wpAny M A (checkBuiltinCall newId ⟨.ref C :: ps, kw⟩) Q E ⟨h, g, d, t, os⟩ := by
  have isB : (Value.ref C :: bm).contains (.type B) = true := by rw [List.contains_cons, same, F.hasB, Bool.or_true]
  have nost := F.noStar
  simp only [checkBuiltinCall, F.newKind, F.newSplit, F.newRow]
  repeat (first
    | refine wpAny_loadPart_at hC ?_
    | (refine wpAny_isSubtype_exc hC ?_; rw [isB])
    | refine wpAny_staticBase_exc hC ?_
    | refine wpAny_madeBy_exc hC ?_
    | simp only [bne_self_eq_false, Bool.false_eq_true, if_false]
    | wp_step)
  exact go
end

section
variable {prog : Program} {w : World} {A : Around} {E : Value → Shared → Prop} {R : Result → Shared → Prop} {h : Heap} {g : Array GenState} {d : Drawn} {t : Nat} {os : OsState}
variable {nm q : Str} {C N : Addr} {bs bm bmB : List Value} {hdct : Bool} {sn : List Str} {sub : List Value} {ab : Bool} {col : Option Bool} {dd : Option Addr} {k0 k1 k2 k3 k5 : Option Value} {B newId initId : String}
/-- the heap behind BaseException.__new__ -/
abbrev newH (h : Heap) (C : Addr) (ps : List Value) : Heap := (h.push (PySem.W.kdv_tup ps)).push (excO C h.objs.size)

theorem is_new (F : ExcBaseFacts B newId initId bmB) (same : ∀ Y : String, bm.contains (.type Y) = bmB.contains (.type Y)) {ps : List Value} {kw : List (Str × Value)}
    (hC : h.get? C = some (excClassObj nm q C N bs bm hdct sn sub ab col dd k0 k1 k2 k3 k5 newId)) (few : ps.length ≤ sizeLine)
    (go : R (.ok (.ret (.ref (h.objs.size + 1)))) ⟨newH h C ps, g, d, t, os⟩) :
    codeAny (model prog w) A (.builtin newId ⟨.ref C :: ps, kw⟩) R ⟨h, g, d, t, os⟩ := by
  have isB : (Value.ref C :: bm).contains (.type B) = true := by rw [List.contains_cons, same, F.hasB, Bool.or_true]
  have noA : (Value.ref C :: bm).contains (.type "AttributeError") = false := by rw [List.contains_cons, same, F.noAttr]; rfl
  have noN : (Value.ref C :: bm).contains (.type "NameError") = false := by rw [List.contains_cons, same, F.noName]; rfl
  have en := F.ends
  refine codeAny_builtinAt F.entry ?_
  unfold Builtin.«BaseException.__new__»
  refine wpAt_bind ?_
  show wpAt _ _ _ (stack >>= _) _ _ _
  refine wpAt_bind (wpAt_stack fun p under => wpAt_of_wpAny ?_)
  wp_walk
  refine wpAt_of_wpAny ?_
  rw [F.owner]
  repeat (first
    | with_reducible refine wpAny_madeHere_exc F.canon hC ?_
    | with_reducible refine wpAny_loadPart_at hC ?_
    | (with_reducible refine wpAny_isSubtype_exc hC ?_; first | rw [isB] | rw [noA] | rw [noN])
    | wp_step)
  show R _ _
  rw [Heap.size_push]
  exact go

theorem is_call (F : ExcBaseFacts B newId initId bmB) (same : ∀ Y : String, bm.contains (.type Y) = bmB.contains (.type Y)) {ps : List Value} {kw : List (Str × Value)} {fI : Addr} {Q : Fin → Shared → Prop}
    (hC : h.get? C = some (excClassObj nm q C N bs bm hdct sn sub ab col dd k0 k1 k2 k3 k5 newId)) (few : ps.length ≤ sizeLine)
    (ini : W.Looks (model prog w) h (typeLookup (.ref C) "__init__") (some (.ref fI))) (bnd : ∀ o, W.Looks (model prog w) h (bindSpecial (.ref fI) o) (.ref fI, [o]))
    (go : codeAny (model prog w) A (.call (.ref fI) ⟨.ref (h.objs.size + 1) :: ps, kw⟩)
      (fun r s' => match r with | .ok (.ret v) => v = .none ∧ Q (.done (.ret (.ref (h.objs.size + 1)))) s' | .ok _ => False | .error e => E e s') ⟨newH h C ps, g, d, t, os⟩) :
    wpAny (model prog w) A (Builtin.«type.__call__» ⟨.ref C :: ps, kw⟩) Q E ⟨h, g, d, t, os⟩ := by
  repeat (first
    | with_reducible refine wpAny_loadPart_at hC ?_
    | with_reducible refine wpAny_madeBy_exc hC ?_
    | wp_step)
  refine codeAny_call_builtin_code (Code.quiet_builtin _ F.quiet) (look_new F same hC ?_)
  refine is_new F same hC few ?_
  show wpAny _ _ _ _ _ _
  have keeps : ∀ b o, h.get? b = some o → (newH h C ps).get? b = some o := fun b o e => Heap.get?_push_of_some _ (Heap.get?_push_of_some _ e)
  have hC2 := keeps _ _ hC
  have at_e : (newH h C ps).get? (h.objs.size + 1) = some (excO C h.objs.size) := by heap_get
  have itself : (Value.ref C :: bm).contains (.ref C) = true := by simp
  have ini2 := ini.keeps keeps
  have bnd2 := (bnd (.ref (h.objs.size + 1))).keeps keeps
  unfold isInstance
  repeat (first
    | with_reducible refine wpAny_loadPart_at at_e ?_
    | (with_reducible refine wpAny_isSubtype_exc hC2 ?_; rw [itself])
    | wp_step)
  show wpAny _ _ (typeLookup (.ref C) _) _ _ _
  refine ini2.at ?_
  refine wpAny_holding (wpAny_bind (bnd2.at ?_))
  refine wpAny_bind (wpAny_call (codeAny_mono go fun r s' z => ?_))
  rcases r with e | (v | _ | _ | _) <;> first | exact z | exact z.elim | skip
  obtain ⟨rfl, z2⟩ := z
  first
    | exact wpAny_pure (wpAny_pure z2)
    | (wp_walk; exact z2)

theorem look_call {M : Model} {E : Value → Shared → Prop} {ps : List Value} {kw : List (Str × Value)} {Q : Unit → Shared → Prop} (hC : h.get? C = some (excClassObj nm q C N bs bm hdct sn sub ab col dd k0 k1 k2 k3 k5 newId)) (go : Q () ⟨h, g, d, t, os⟩) :
    wpAny M A (checkBuiltinCall "type.__call__" ⟨.ref C :: ps, kw⟩) Q E ⟨h, g, d, t, os⟩ := by
  have f := tc_sub
  have ty : (⟨h, g, d, t, os⟩ : Shared).TypeIs (.ref C) "type" := ⟨_, hC, rfl⟩
  simp only [checkBuiltinCall, tc_kind, tc_split]
  repeat (any_goals (first
    | assumption
    | with_reducible refine wpAny_loadPart_at hC ?_
    | with_reducible refine wpAny_onRaise ?_
    | with_reducible refine wpAny_map ?_
    | wp_step))

theorem call_it (F : ExcBaseFacts B newId initId bmB) (same : ∀ Y : String, bm.contains (.type Y) = bmB.contains (.type Y)) {ps : List Value} {kw : List (Str × Value)} {fI : Addr}
    (hC : h.get? C = some (excClassObj nm q C N bs bm hdct sn sub ab col dd k0 k1 k2 k3 k5 newId)) (few : ps.length ≤ sizeLine)
    (ini : W.Looks (model prog w) h (typeLookup (.ref C) "__init__") (some (.ref fI))) (bnd : ∀ o, W.Looks (model prog w) h (bindSpecial (.ref fI) o) (.ref fI, [o]))
    (go : codeAny (model prog w) (A.under (.builtin "type.__call__" ⟨.ref C :: ps, kw⟩)) (.call (.ref fI) ⟨.ref (h.objs.size + 1) :: ps, kw⟩) (W.InitBack (h.objs.size + 1) R) ⟨newH h C ps, g, d, t, os⟩) :
    codeAny (model prog w) A (.call (.ref C) ⟨ps, kw⟩) R ⟨h, g, d, t, os⟩ := by
  have f1 := tc_lookup
  have f2 := tc_bind (.ref C)
  have ty : (⟨h, g, d, t, os⟩ : Shared).TypeIs (.ref C) "type" := ⟨_, hC, rfl⟩
  refine codeAny_of_tree ?_
  show wpAny _ _ (callAny (.ref C) _) _ _ _
  repeat (any_goals (first
    | assumption
    | with_reducible refine wpAny_loadPart_at hC ?_
    | wp_step))
  refine ⟨rfl, ?_⟩
  refine codeAny_call_builtin_at (Code.quiet_builtin _ (by decide +kernel)) entry_typeCall (look_call hC (is_call F same hC few ini bnd ?_))
  refine codeAny_mono go fun r s' z => ?_
  rcases r with e | (v | _ | _ | _) <;> exact z
end
end PySem.VX

set_option maxRecDepth 100000
set_option maxHeartbeats 4000000
/-! isinstance of an own exception's object that has a dict, or none. -/
namespace PySem.W
open PySem PySem.Spec PySem.Calls PyProof.Rows
section
variable {prog : Program} {w : World} {A : Around} {E : Value → Shared → Prop} {s : Shared} {K : Frag} {x D : Addr} {ox : Obj} {od : Option Obj}
theorem vx_bound {C : Addr} {y : Str} {v gg : Value} (is : (clsIn K C).isSome = true) (f : findIn K (.ref C) y = some (some v)) (gt : specialIn K v "__get__" = some (some gg)) (tk : takesIn K v = some true) :
    findObj K C od y = some (.bind gg v) := by
  obtain ⟨cd, e⟩ := Option.isSome_iff_exists.mp is
  unfold findObj
  rw [e, Option.bind_some, f, Option.bind_some]
  simp [gt, tk]
theorem vx_class {Q : Option Value → Shared → Prop} (C : L2.ExcC K D) (X : K.In s.heap) (I : InstAt s.heap x ox D od) (go : Q (some (.ref D)) { s with toks := s.toks + 1 }) :
    wpAny (model prog w) A (getAttr? (.ref x) "__class__") Q E s := by
  have is : (clsIn K D).isSome = true := by
    obtain ⟨cd, hc, _⟩ := any_some C.hd
    rw [hc]; rfl
  have fo : findObj K D od "__class__" = some (.bind (.builtin "getset_descriptor.__get__") (.builtin "object.__class__")) := vx_bound is C.ha C.hn C.ht
  obtain ⟨hh, gs, dr, tk, os⟩ := s
  have T0 := I.type (M := model prog w)
  have T1 := looks_findIn (M := model prog w) X C.hg
  have T2 := looks_findIn (M := model prog w) X C.hk
  have T3 := looks_find (M := model prog w) X I fo
  have sub : Looks (model prog w) hh (isInstance (.ref x) (.type "BaseException")) true := T0.andThen (looks_subIn X C.hs)
  have n0 : (false && onTheHeap (Value.builtin "BaseException.__getattribute__")) = false := rfl
  have n2 : (Value.builtin "BaseException.__getattribute__" == Value.builtin "object.__getattribute__") = false := by decide +kernel
  have n1 : (onTheHeap (Value.ref D) && Value.builtin "BaseException.__getattribute__" == Value.builtin "object.__getattribute__") = false := by
    rw [n2]; rfl
  unfold getAttr? getAttrBy? getAttrBy
  refine wpAny_bind (wpAny_mkText (wpAny_bind (wpAny_attempt (wpAny_holding (wpAny_bind (T0.at (wpAny_bind (T1.at ?_))))))))
  show wpAny _ _ (if (onTheHeap (Value.ref D) && Value.builtin "BaseException.__getattribute__" == Value.builtin "object.__getattribute__") = true
    then _ else _) _ _ _
  rw [n1, if_neg Bool.false_ne_true]
  unfold getAttrByItsOwn hookBefore
  refine wpAny_bind ?_
  rw [if_pos (show onTheHeap (Value.ref D) = true from
    rfl)]
  refine T2.at ?_
  refine wpAny_bind (wpAny_attempt (wpAny_holding ?_))
  unfold callGetattribute
  rw [n0, if_neg Bool.false_ne_true]
  unfold boundAndCalled
  rw [PySem.F.excAttr_ValueError.ga.bind (Value.ref x)]
  refine wpAny_bind (wpAny_pure ?_)
  show wpAny _ _ (call (.builtin "BaseException.__getattribute__") [.ref x, .str "__class__" tk]) _ _ _
  refine wpAny_call (codeAny_call_builtin (PySem.F.excAttr_ValueError.ga.plain) PySem.F.entry_bexc_ga ?_)
  refine @check_slot (model prog w) _ _ ⟨hh, gs, dr, tk + 1, os⟩ "BaseException.__getattribute__" "BaseException" "__getattribute__" (.ref x) [.str "__class__" tk] [] _
    (by decide +kernel) (by decide +kernel) sub (PySem.F.args_bexc_ga (.ref x) (.str "__class__" tk)) ?_
  unfold Builtin.«object.__getattribute__»
  refine wpAny_bind (wpAny_of_eq (a := ((Value.ref x : Value), [Value.str "__class__" tk])) (by
    first | rfl | (simp only [slotArgs]; rfl)) ?_)
  refine wpAny_bind (wpAny_pure (wpAny_bind (T0.at (wpAny_bind (T3.at ?_)))))
  show wpAny _ _ (holding [Value.builtin "object.__class__"] (call (.builtin "getset_descriptor.__get__")
    [.builtin "object.__class__", .ref x, .ref D]) >>= ret) _ _ _
  refine wpAny_bind (wpAny_holding (wpAny_call (class_get (s := ⟨hh, gs, dr, tk + 1, os⟩) (ox := ox) (od := od) X I C.hm ?_)))
  refine wpAny_pure ?_
  show wpAny _ _ (handedOut (.ref D)) _ _ _
  rw [handedOut_of (v := Value.ref D) rfl]
  first
    | exact wpAny_pure (wpAny_pure go)
    | exact wpAny_pure go
theorem vx_kit (C : L2.ExcC K D) : KitX K (.ref x) (.ref D) (fun h => ∃ ox od, InstAt h x ox D od) where
  ty := fun _ _ _ ⟨_, _, I⟩ => I.type
  it := fun _ _ X _ => by
    obtain ⟨cd, hc, _⟩ := any_some C.hd
    unfold clsIn at hc
    split at hc
    · rename_i ho
      intro A' Q' E' s' k q
      unfold isType loadHead
      exact wpAny_bind (wpAny_loadPart (k _ _ (X _ _ ho))
        (wpAny_pure q))
    · cases hc
  ne := fun h tp dd its n sl X htp => by
    obtain ⟨cd, hc, _⟩ := any_some C.hd
    refine Bool.eq_false_iff.mpr fun same => ?_
    have e : D = tp := Value.ref.inj (beq_iff_eq.mp same)
    subst e
    unfold clsIn at hc
    split at hc
    · rename_i ho
      have z := (X _ _ ho).symm.trans htp
      cases z
    · cases hc
  ca := fun X ⟨_, _, I⟩ k => vx_class C X I k
end
end PySem.W

set_option maxRecDepth 100000
set_option maxHeartbeats 4000000
/-! An own exception's object as a value, over the layer: made, its fields read, asked for its class. -/
namespace L2
open PySem PySem.Spec PyProof.Rows

/-- at a: an exception of the class at C, these its fields -/
def IsEx (H : Hp) (a C : Addr) (fs : List (Str × V)) : Prop := (fs = [] ∧ H a = some (exo a C none)) ∨ ∃ dx, H a = some (exo a C (some dx)) ∧ H dx = some (exd dx fs)
theorem IsEx.same {H H' : Hp} {a C : Addr} {fs : List (Str × V)} (h : IsEx H a C fs) (e : Same H H') : IsEx H' a C fs := by
  rcases h with ⟨h1, h2⟩ | ⟨dx, h1, h2⟩
  · exact .inl ⟨h1, e _ _ h2⟩
  · exact .inr ⟨dx, e _ _ h1, e _ _ h2⟩
section
variable {X : Cx} {pins : List (Addr × Obj)} {σ : St} {H : Hp} {s : Shared} {a C : Addr} {fs : List (Str × V)}
theorem IsEx.inst (h : IsEx H a C fs) (I : Inv X pins σ H s) : ∃ ox od, PySem.W.InstAt s.heap a ox C od ∧ ∀ f v, fs.lookup f = some v → ∃ u o, od = some o ∧ PySem.W.lookIn f o = some (some u) ∧ RelV v u := by
  rcases h with ⟨rfl, h⟩ | ⟨dx, h, hd⟩
  · obtain ⟨t, e⟩ := exo_at I.hok h
    exact ⟨_, none, ⟨e, rfl, rfl, trivial⟩, fun f v z => by cases z⟩
  · obtain ⟨t, e⟩ := exo_at I.hok h
    obtain ⟨mA, ns, rel⟩ := exd_at I.hok hd
    obtain ⟨od, eo, lk⟩ := lookIn_ns ns
    refine ⟨_, some od, ⟨e, rfl, rfl, eo⟩, fun f v z => ?_⟩
    obtain ⟨u, eu, ru⟩ := RelO.some_of (v := v) (o := mA f) (by rw [← z]; exact rel f)
    exact ⟨u, od, rfl, by rw [lk, eu], ru⟩
/-- e.f -/
def tExF (K : PySem.W.Frag) (f : Str) (te : TE) : TE := fun σ H Q => te σ H fun x H1 => ∃ (a C : Addr) (fs : List (Str × V)) (v : V), x = .ref a ∧ XfC K C ∧ PySem.W.findIn K (.ref C) f = some none ∧ IsEx H1 a C fs ∧ fs.lookup f = some v ∧ Q v H1
theorem pe_exF {e : Expr} {te : TE} {pos : Pos} {f : Str} (he : PE X e te) (hb : attributeBase e f X.env (eval e X.env) = eval e X.env := by rfl) : PE X (.Attribute e f pos) (tExF X.K f te) := by
  refine ⟨fun pins s σ H Q I h => ?_⟩
  refine attr_of hb (thn (he.run pins s σ H _ I h) fun u s1 hh => ?_)
  obtain ⟨x, H1, I1, rx, a, C, fs, v, ex, T, no, is, l, q⟩ := hh
  subst ex
  obtain rfl : u = Value.ref a := rx
  obtain ⟨ox, od, J, look⟩ := is.inst I1
  obtain ⟨w', o, rfl, lo, rw'⟩ := look f v l
  exact HandSPX.exc_get I1.kIn J T.ga T.gg T.exC (PySem.W.findObj_own T.hdC no rfl lo) (handed_of rw') ⟨v, H1, I1.tok _, rw', q⟩
/-- isinstance(e, c) -/
def rIsX (K : PySem.W.Frag) : List V → Hp → VK → Prop := fun xs H Q => ∃ (a D : Addr) (fs : List (Str × V)) (c : V) (cv : Value) (b : Bool), xs = [.ref a, c] ∧ IsEx H a D fs ∧ ExcC K D ∧ (∀ u, RelV c u → u = cv) ∧ PySem.W.kitOne K (.ref D) cv = some b ∧ Q (.bl b) H
theorem call_isX : CallR X (.builtin "isinstance") (rIsX X.K) := by
  intro pins s σ H xs us Q I r h
  obtain ⟨a, D, fs, c, cv, b, rfl, is, C, hcv, e, q⟩ := h
  obtain ⟨u, v, rfl, ru, rv⟩ := vals2 r
  obtain rfl : u = Value.ref a := ru
  obtain rfl := hcv _ rv
  obtain ⟨ox, od, J, _⟩ := is.inst I
  exact PySem.W.kia_one (PySem.W.vx_kit C) I.kIn ⟨ox, od, J⟩ e (fun z => nomatch z) fun tk => ⟨.bl b, H, I.kept (t' := tk) fun _ _ z => z, rfl, q⟩

/-! ### made: C(e, .., k = v, ..), its own __init__ -/
def tMkX (C : Addr) (n m : Nat) (sp : Sp) (gV : List V → List V → List V) (E : XK) (t tk : TA) : TE := fun σ H Q => t σ H fun vs H1 => tk σ H1 fun zs H2 => vs.length = n ∧ zs.length = m ∧
  ∀ a, H2 a = none → sp (gV (.ref a :: vs) zs) (upd H2 a (exo a C none)) (fun v H3 => v = .non ∧ Q (.ref a) H3) E
/-- what the written part says of such a class -/
structure MkXC (K : PySem.W.Frag) (C fI : Addr) : Prop extends OexC K C where
  ini : PySem.W.findIn K (.ref C) "__init__" = some (some (.ref fI))
  tyI : PySem.W.typeIn K (.ref fI) = some (.type "function")
variable {CX : CXT} {k n : Nat} {fI : Addr} {fd : FuncData} {ps ks : List Str} {sp : Sp} {E : XK} {x : Str} {p pos : Pos} {e : Expr} {es : List Expr} {kws : List Keyword} {t tk : TA} {g : List Value → List Value → List Value} {gV : List V → List V → List V} {Q : VK} {us ws : List Value} {vs zs : List V}
theorem run_mkX (T : MkXC X.K C fI) (F : FnOk X.prog X.w X.K X.mg X.base CX k fI fd ps sp) (hr : Room (k + 1) X.A) (hb : KBn X.K fd ps (n + 1) ks g gV) (hx : Passes CX X E) (few : n ≤ 1000)
    (I : Inv X pins σ H s) (r : Vals vs us) (rz : Vals zs ws) (l1 : vs.length = n) (l2 : zs.length = ks.length)
    (h : ∀ a, H a = none → sp (gV (.ref a :: vs) zs) (upd H a (exo a C none)) (fun v H3 => v = .non ∧ Q (.ref a) H3) E) :
    wpAny (model X.prog X.w) X.A (call (.ref C) us (ks.zip ws)) (EP X pins σ Q) X.xe s := by
  obtain ⟨nm, q, N, bs, bm, sn, sub, ab, col, dd, k0, k1, k2, k3, k5, hC, hbm⟩ := T.cls
  obtain ⟨hp, gs, dr, tk, os⟩ := s
  have up : hp.objs.size ≤ hp.objs.size + 1 := Nat.le_succ _
  have hq := h (hp.objs.size + 1) (I.hok.fresh up)
  have len : us.length ≤ sizeLine := by
    rw [← Paired.length r, l1, sizeLine_eq]
    omega
  have keeps : ∀ b o, hp.get? b = some o → (PySem.VX.newH hp C us).get? b = some o := fun b o z => Heap.get?_push_of_some _ (Heap.get?_push_of_some _ z)
  have at_a : (PySem.VX.newH hp C us).get? (hp.objs.size + 1) = some (PySem.HandSPX.excO C hp.objs.size) := by heap_get
  have J : Inv X pins σ (upd H (hp.objs.size + 1) (exo (hp.objs.size + 1) C none)) ⟨PySem.VX.newH hp C us, gs, dr, tk, os⟩ :=
    I.laid (t' := tk) (a := hp.objs.size + 1) (o := exo (hp.objs.size + 1) C none) (h' := PySem.VX.newH hp C us) keeps up (exo_ok at_a)
  have r1 : Vals (V.ref (hp.objs.size + 1) :: vs) (Value.ref (hp.objs.size + 1) :: us) := .cons rfl r
  have r2 := hb.rel r1 rz
  have m1 : (Value.ref (hp.objs.size + 1) :: us).length = n + 1 := r1.length.symm.trans (congrArg Nat.succ l1)
  have m2 : ws.length = ks.length := rz.length.symm.trans l2
  refine wpAny_call (PySem.VX.call_it PySem.F.excBase_ValueError (fun Y => PySem.HandSPX.refsVE_contains Y bm hbm) (I.kIn _ _ hC) len (PySem.W.looks_findIn I.kIn T.ini) (fun o => PySem.W.bind_fn I.kIn o T.tyI)
    (codeAny_mono (F.run _ X.stack _ _ ⟨Value.ref (hp.objs.size + 1) :: us, ks.zip ws⟩ (g (Value.ref (hp.objs.size + 1) :: us) ws) _ _ E (hr.make C us (ks.zip ws)) (J.env0.make C us (ks.zip ws))
      (hb.to _ (Value.ref (hp.objs.size + 1) :: us) ws J.kIn m1 m2) r2 hq) fun r s' hq' => ?_))
  cases r with
  | error er => exact hx pins σ _ _ er s' J hq'
  | ok fl =>
    cases fl with
    | ret u =>
      obtain ⟨v, H', J2, rv, ev, q3⟩ := J.after hq'
      subst ev
      exact ⟨rv, ⟨V.ref (hp.objs.size + 1), H', J2, rfl, q3⟩⟩
    | next => exact hq'.elim
    | brk => exact hq'.elim
    | cont => exact hq'.elim
/-- C(e, ..) -/
theorem pe_mkX (T : MkXC X.K C fI) (F : FnOk X.prog X.w X.K X.mg X.base CX k fI fd ps sp) (hr : Room (k + 1) X.A) (hg : Gl X x) (hm : X.mg x = some (.ref C)) (hb : KBn X.K fd ps (n + 1) [] g gV) (few : n ≤ 1000) (hx : Passes CX X E)
    (ha : PA X (e :: es) t) (hdb : (x == ("__debug__" : Str)) = false := by decide) (he : starEach (e :: es) X.env = (false, eval e X.env) :: starEach es X.env := by rfl) (hpl : (backTo pos (starEach es X.env)).any (·.1) = false := by rfl) :
    PE X (.Call (.Name x p) (e :: es) [] pos) (tMkX C n 0 sp gV E t tNil) := by
  refine ⟨fun pins s σ H Q I h => ?_⟩
  refine wpAny_Call_Name_kw (ld_glob I hg hm ?_ hdb)
  refine PySem.W.callWith_K (h₀ := X.base) I.ok.mod.kin T.kC (thn (ha.run pos pins s σ H _ I h) fun us s1 hh => ?_) he hpl
  obtain ⟨vs, H1, I1, r, l1, l2, q⟩ := hh
  exact ⟨I1.kIn, run_mkX (ks := []) (zs := []) (ws := []) T F hr hb hx few I1 r .nil l1 rfl q⟩
/-- C() -/
theorem pe_mkX0 (T : MkXC X.K C fI) (F : FnOk X.prog X.w X.K X.mg X.base CX k fI fd ps sp) (hr : Room (k + 1) X.A) (hg : Gl X x) (hm : X.mg x = some (.ref C)) (hb : KBn X.K fd ps 1 [] g gV) (hx : Passes CX X E) (hdb : (x == ("__debug__" : Str)) = false := by decide) :
    PE X (.Call (.Name x p) [] [] pos) (tMkX C 0 0 sp gV E tNil tNil) := by
  refine ⟨fun pins s σ H Q I h => ?_⟩
  refine wpAny_Call_Name_kw (ld_glob I hg hm ?_ hdb)
  obtain ⟨l1, l2, q⟩ := h
  exact PySem.W.callWith_K0 I.kIn T.kC (run_mkX (n := 0) (ks := []) (us := []) (vs := []) (zs := []) (ws := []) T F hr hb hx (by decide) I .nil .nil rfl rfl q)
/-- C(k = v, ..) -/
theorem pe_mkXK (T : MkXC X.K C fI) (F : FnOk X.prog X.w X.K X.mg X.base CX k fI fd ps sp) (hr : Room (k + 1) X.A) (hg : Gl X x) (hm : X.mg x = some (.ref C)) (hb : KBn X.K fd ps 1 ks g gV) (hx : Passes CX X E)
    (hkw : PK X kws tk) (hall : (backToKw pos (keywordEach kws X.env)).all (·.1.isSome) = true := by rfl) (hks : (backToKw pos (keywordEach kws X.env)).filterMap (·.1) = ks := by rfl) (hdb : (x == ("__debug__" : Str)) = false := by decide)
    (hpl : ((backTo pos (starEach [] X.env)).any (·.1) || (backToKw pos (keywordEach kws X.env)).any (·.1.isNone)) = false := by rfl) :
    PE X (.Call (.Name x p) [] kws pos) (tMkX C 0 ks.length sp gV E tNil tk) := by
  refine ⟨fun pins s σ H Q I h => ?_⟩
  refine wpAny_Call_Name_kw (ld_glob I hg hm ?_ hdb)
  refine PySem.W.callWith_KW0 (h₀ := X.base) I.ok.mod.kin T.kC hall (thn (hkw.run pos pins s σ H _ I h) fun ws s2 hh => ?_) hpl
  obtain ⟨zs, H2, I2, rz, l1, l2, q2⟩ := hh
  refine ⟨I2.kIn, ?_⟩
  rw [hks]
  exact run_mkX (n := 0) (us := []) (vs := []) T F hr hb hx (by decide) I2 .nil rz rfl l2 q2
end
end L2

set_option maxRecDepth 100000
set_option maxHeartbeats 4000000
/-! The head's facts with one more Bool; own exception classes in it. -/
namespace VH
open PySem PySem.Spec PyProof.Rows L2 He
/-! ### the Hook -/
abbrev AlV : Type := AlD × Bool
def obsV (fa : List Fa) (fn : List DefD) (ex : PySem.W.Frag → Bool) (K : PySem.W.Frag) : AlV := (obsD fa fn K, ex K)
def obsVG (n : Nat) (fa : List Fa) (fn : List DefD) (ex : PySem.W.Frag → Bool) (g : Addr → Option Obj) : AlV := obsV fa fn ex (frG g (asD g n))
def SaysV (fa : List Fa) (fn : List DefD) (ex : PySem.W.Frag → Bool) (K : PySem.W.Frag) : Prop := SaysD fa fn K ∧ ex K = true
def hookV (n : Nat) (fa : List Fa) (fn : List DefD) (ex : PySem.W.Frag → Bool) : PySem.W.Hook where
  α := AlV
  obs := fun s => obsVG n fa fn ex s.heap.get?
  val := fun _ => (valD fn, true)
  says := fun _ h => ∃ K : PySem.W.Frag, K.In h ∧ SaysV fa fn ex K
  of := fun _ _ e => ⟨_, frG_in, congrArg (fun z : AlV => z.1) e, congrArg (fun z : AlV => z.2) e⟩
  keeps := fun _ _ _ ⟨K, hK, c⟩ k => ⟨K, PySem.W.Frag.In.keeps hK k, c⟩
theorem obsVG_eq {n : Nat} {fa : List Fa} {fn : List DefD} {ex : PySem.W.Frag → Bool} {g : Addr → Option Obj} {s : Shared} (h : ∀ a, g a = s.heap.get? a) : obsVG n fa fn ex g = (hookV n fa fn ex).obs s := by
  have e : g = s.heap.get? := funext h
  rw [e]; rfl
/-! ### an own exception class -/
/-- the class at C is over ValueError, perhaps over own ones between -/
def exB (K : PySem.W.Frag) (C : Addr) : Bool := match K.lookup C with
  | some ⟨.type t, _, .cls cd, sl⟩ => decide (t = "type") && (match cd.mro, sl.toList with
    | .ref D :: bm, [_, _, _, _, some (.builtin n), _] => decide (D = C) && (decide (n = "ValueError.__new__") && (!cd.hasDel && (cd.hasDict && PySem.HandSPX.refsVE bm)))
    | _, _ => false)
  | _ => false
theorem exB_ok {K : PySem.W.Frag} {C : Addr} (h : exB K C = true) : ∃ nm q N bs bm sn sub ab col dd k0 k1 k2 k3 k5, K.lookup C = some (excClassObj nm q C N bs bm true sn sub ab col dd k0 k1 k2 k3 k5 "ValueError.__new__") ∧ PySem.HandSPX.refsVE bm = true := by
  unfold exB at h
  split at h
  · rename_i t dd cd sl ho
    obtain ⟨y0, z0⟩ := ba h
    clear h
    have e0 : t = "type" := of_decide_eq_true y0
    split at z0
    · rename_i D bm k0 k1 k2 k3 n k5 hm hs
      obtain ⟨y1, z1⟩ := ba z0
      obtain ⟨y2, z2⟩ := ba z1
      obtain ⟨y3, z3⟩ := ba z2
      obtain ⟨y4, y5⟩ := ba z3
      have e1 : D = C := of_decide_eq_true y1
      have e2 : n = "ValueError.__new__" := of_decide_eq_true y2
      clear z0 z1 z2 z3 y0 y1 y2
      subst e0 e1 e2
      obtain ⟨nm, bs, mro, ns, qn, hd, sn, sub, ab, col, del⟩ := cd
      dsimp only at hm y3 y4
      subst hm y4
      have e3 : del = false := by
        cases del with
        | false => rfl
        | true => cases y3
      subst e3
      have e4 : sl = #[k0, k1, k2, k3, some (.builtin "ValueError.__new__"), k5] := by
        obtain ⟨l⟩ := sl
        simp only at hs
        rw [hs]
      subst e4
      exact ⟨nm, qn, ns, bs, bm, sn, sub, ab, col, dd, k0, k1, k2, k3, k5, ho, y5⟩
    · cases z0
  · cases h
def okO {α : Type} [DecidableEq α] (a b : Option α) : Bool := decide (a = b)
/-- all that an own exception class, with an __init__ of its own, must say; its fields' names -/
def clB (K : PySem.W.Frag) (x : Str) (fs : List Str) : Bool :=
  decide (PySem.W.nsIn K mainGlobals x = some (some (.ref (ga K x)))) && (exB K (ga K x) && (
  decide (PySem.W.findIn K (.ref (ga K x)) "__setattr__" = some (some (.builtin "object.__setattr__"))) && (
  decide (PySem.W.subIn K (.ref (ga K x)) (.type "BaseException") = some true) && (
  decide (PySem.W.typeIn K (.ref (ga K x)) = some (.type "type")) && (
  PySem.W.keepIn K (.ref (ga K x)) && (
  decide (PySem.W.findIn K (.ref (ga K x)) "__init__" = some (some (.ref (ma K (ga K x) "__init__")))) && (
  decide (PySem.W.typeIn K (.ref (ma K (ga K x) "__init__")) = some (.type "function")) && (
  decide (PySem.W.findIn K (.ref (ga K x)) "__getattribute__" = some (some (.builtin "BaseException.__getattribute__"))) && (
  decide (PySem.W.findIn K (.ref (ga K x)) "__getattr__" = some none) && (
  PySem.W.hasDictIn K (ga K x) && (
  decide (PySem.W.findIn K (.ref (ga K x)) "__class__" = some (some (.builtin "object.__class__"))) && (
  decide (PySem.W.mroIn K (ga K x) (.type "object") = some true) && (
  fs.all fun f => decide (PySem.W.findIn K (.ref (ga K x)) f = some none))))))))))))))
structure ClOk (K : PySem.W.Frag) (x : Str) (fs : List Str) : Prop where
  gl : PySem.W.nsIn K mainGlobals x = some (some (.ref (ga K x)))
  mkx : MkXC K (ga K x) (ma K (ga K x) "__init__")
  xf : XfC K (ga K x)
  ec : PySem.W.specialIn K (.builtin "object.__class__") "__get__" = some (some (.builtin "getset_descriptor.__get__")) → PySem.W.takesIn K (.builtin "object.__class__") = some true → ExcC K (ga K x)
  no : ∀ f ∈ fs, PySem.W.findIn K (.ref (ga K x)) f = some none
theorem clB_ok {K : PySem.W.Frag} {x : Str} {fs : List Str} (h : clB K x fs = true) : ClOk K x fs := by
  unfold clB at h
  obtain ⟨g0, h⟩ := ba h
  obtain ⟨g1, h⟩ := ba h
  obtain ⟨g2, h⟩ := ba h
  obtain ⟨g3, h⟩ := ba h
  obtain ⟨g4, h⟩ := ba h
  obtain ⟨g5, h⟩ := ba h
  obtain ⟨g6, h⟩ := ba h
  obtain ⟨g7, h⟩ := ba h
  obtain ⟨g8, h⟩ := ba h
  obtain ⟨g9, h⟩ := ba h
  obtain ⟨g10, h⟩ := ba h
  obtain ⟨g11, h⟩ := ba h
  obtain ⟨g12, h⟩ := ba h
  have d := fun {p : Prop} [Decidable p] (z : decide p = true) => of_decide_eq_true z
  exact ⟨of_decide_eq_true g0, ⟨⟨exB_ok g1, of_decide_eq_true g2, of_decide_eq_true g3, of_decide_eq_true g4, g5⟩, of_decide_eq_true g6, of_decide_eq_true g7⟩,
    ⟨of_decide_eq_true g8, of_decide_eq_true g9, of_decide_eq_true g3, g10⟩,
    fun a b => ⟨of_decide_eq_true g8, of_decide_eq_true g9, of_decide_eq_true g3, g10, of_decide_eq_true g11, a, b, of_decide_eq_true g12⟩,
    fun f hf => of_decide_eq_true (List.all_eq_true.mp h f hf)⟩
/-- what asks the descriptor __class__ -/
def dcB (K : PySem.W.Frag) : Bool := decide (PySem.W.specialIn K (.builtin "object.__class__") "__get__" = some (some (.builtin "getset_descriptor.__get__"))) && decide (PySem.W.takesIn K (.builtin "object.__class__") = some true)
end VH

set_option maxRecDepth 100000
set_option maxHeartbeats 4000000
/-! What a head's Bool says of the written part: tuples of texts, a dict of such, defaults that are objects, own classes with an own ==. -/
namespace VH
open PySem PySem.Spec PyProof.Rows L2 He
/-- written texts -/
def txsB : List Value → List Str → Bool
  | [], [] => true
  | .str x _ :: l, w :: ws => decide (x = w) && txsB l ws
  | _, _ => false
/-- at a: a written tuple of the texts ws -/
def tupB (K : PySem.W.Frag) (a : Addr) (ws : List Str) : Bool := match K.lookup a with
  | some ⟨.type c, _, .seq its _, _⟩ => decide (c = "tuple") && (txsB its.toList ws && decide (its.size ≤ 100))
  | _ => false
theorem txsB_ok : ∀ {l : List Value} {ws : List Str}, txsB l ws = true → Vals (ws.map V.str) l
  | [], [], _ => .nil
  | v :: l, w :: ws, h => by
    cases v with
    | str x t =>
      obtain ⟨h1, h2⟩ := ba (show (decide (x = w) && txsB l ws) = true from h)
      obtain rfl := of_decide_eq_true h1
      exact .cons ⟨t, rfl⟩ (txsB_ok h2)
    | _ => cases h
  | [], _ :: _, h => by cases h
  | v :: _, [], h => by cases v <;> cases h
theorem tupB_ok {K : PySem.W.Frag} {a : Addr} {ws : List Str} (h : tupB K a ws = true) (H : Hp) : SqT K H a (ws.map V.str) := by
  unfold tupB at h
  split at h
  · rename_i c d its n sl e
    obtain ⟨h1, h2⟩ := ba h
    obtain ⟨h2, h3⟩ := ba h2
    obtain rfl := of_decide_eq_true h1
    exact .inr ⟨_, its, _, e, rfl, rfl, Nat.le_trans (of_decide_eq_true h3) (by decide), txsB_ok h2⟩
  · cases h
def tupsB (K : PySem.W.Frag) : List Value → List (List Str) → Bool
  | [], [] => true
  | .ref p :: l, w :: ws => tupB K p w && tupsB K l ws
  | _, _ => false
/-- at a: a written tuple of such tuples -/
def tupTB (K : PySem.W.Frag) (a : Addr) (ws : List (List Str)) : Bool := match K.lookup a with
  | some ⟨.type c, _, .seq its _, _⟩ => decide (c = "tuple") && (tupsB K its.toList ws && decide (its.size ≤ 100))
  | _ => false
/-- the entry k of the written dict x: such a tuple -/
def entB (K : PySem.W.Frag) (x k : Str) (ws : List (List Str)) : Bool := match PySem.W.nsIn K (ga K x) k with
  | some (some (.ref p)) => tupTB K p ws
  | _ => false
theorem tupsB_ok {K : PySem.W.Frag} : ∀ {l : List Value} {ws : List (List Str)}, tupsB K l ws = true → ∃ ps : List Addr, Vals (ps.map V.ref) l ∧ ps.length = ws.length ∧ ∀ (i : Nat) (p : Addr) (w : List Str), ps[i]? = some p → ws[i]? = some w → ∀ H, SqT K H p (w.map V.str)
  | [], [], _ => ⟨[], .nil, rfl, fun i p w h => by simp at h⟩
  | v :: l, w :: ws, h => by
    cases v with
    | ref p =>
      obtain ⟨h1, h2⟩ := ba (show (tupB K p w && tupsB K l ws) = true from h)
      obtain ⟨ps, r1, r2, r3⟩ := tupsB_ok h2
      refine ⟨p :: ps, .cons rfl r1, by simp [r2], fun i q u e1 e2 H => ?_⟩
      match i, e1, e2 with
      | 0, e1, e2 =>
        cases e1
        cases e2
        exact tupB_ok h1 H
      | i + 1, e1, e2 => exact r3 i q u e1 e2 H
    | _ => cases h
  | [], _ :: _, h => by cases h
  | v :: _, [], h => by cases v <;> cases h
def Ent (K : PySem.W.Frag) (x k : Str) (ws : List (List Str)) : Prop := ∃ (p : Addr) (ps : List Addr), PySem.W.nsIn K (ga K x) k = some (some (.ref p)) ∧ (∀ H, SqT K H p (ps.map V.ref)) ∧ ps.length = ws.length ∧
  ∀ (i : Nat) (p : Addr) (w : List Str), ps[i]? = some p → ws[i]? = some w → ∀ H, SqT K H p (w.map V.str)
theorem entB_ok {K : PySem.W.Frag} {x k : Str} {ws : List (List Str)} (h : entB K x k ws = true) : Ent K x k ws := by
  unfold entB at h
  split at h
  · rename_i p e
    unfold tupTB at h
    split at h
    · rename_i c d its n sl e2
      obtain ⟨h1, h2⟩ := ba h
      obtain ⟨h2, h3⟩ := ba h2
      obtain rfl := of_decide_eq_true h1
      obtain ⟨ps, r1, r2, r3⟩ := tupsB_ok h2
      exact ⟨p, ps, e, fun H => .inr ⟨_, its, _, e2, rfl, rfl, Nat.le_trans (of_decide_eq_true h3) (by decide), r1⟩, r2, r3⟩
    · cases h
  · cases h
/-- the keyword default n of the def at f, if it is an object -/
def kwA (f : Str × Option Str) (n : Str) (K : PySem.W.Frag) : Addr := match K.lookup (fAd K f) with
  | some ⟨_, _, .func fd, _⟩ => (match fd.kwdefaults with
    | .ref D => (match PySem.W.nsIn K D n with
      | some (some (.ref a)) => a
      | _ => 0)
    | _ => 0)
  | _ => 0
/-- an own class with an own ==, none of its instances can be called -/
def ownB (K : PySem.W.Frag) (x : Str) : Bool :=
  decide (PySem.W.findIn K (.ref (ga K x)) "__ne__" = some (some (.builtin "object.__ne__"))) && (
  decide (PySem.W.subIn K (.ref (ga K x)) (.type "object") = some true) && (
  decide (PySem.W.kitOne K (.ref (ga K x)) (.ref (ga K x)) = some true) && (
  decide (PySem.W.findIn K (.ref (ga K x)) "__class__" = some (some (.builtin "object.__class__"))) && (
  decide (PySem.W.mroIn K (ga K x) (.type "object") = some true) && (
  (["tuple", "list", "dict", "int", "bool", "str", "NoneType"] : List String).all fun t => decide (PySem.W.kitOne K (.type t) (.ref (ga K x)) = some false) && decide (PySem.W.subIn K (.type t) (.ref (ga K x)) = some false))))))
structure OwnC (K : PySem.W.Frag) (x : Str) : Prop where
  ne : PySem.W.findIn K (.ref (ga K x)) "__ne__" = some (some (.builtin "object.__ne__"))
  ob : PySem.W.subIn K (.ref (ga K x)) (.type "object") = some true
  kk : PySem.W.kitOne K (.ref (ga K x)) (.ref (ga K x)) = some true
  cls : PySem.W.findIn K (.ref (ga K x)) "__class__" = some (some (.builtin "object.__class__"))
  mro : PySem.W.mroIn K (ga K x) (.type "object") = some true
  kt : ∀ t ∈ (["tuple", "list", "dict", "int", "bool", "str", "NoneType"] : List String), PySem.W.kitOne K (.type t) (.ref (ga K x)) = some false ∧ PySem.W.subIn K (.type t) (.ref (ga K x)) = some false
theorem ownB_ok {K : PySem.W.Frag} {x : Str} (h : ownB K x = true) : OwnC K x := by
  unfold ownB at h
  obtain ⟨q1, h⟩ := ba h
  obtain ⟨q2, h⟩ := ba h
  obtain ⟨q3, h⟩ := ba h
  obtain ⟨q4, h⟩ := ba h
  obtain ⟨q5, q6⟩ := ba h
  have d := fun {p : Prop} [Decidable p] (z : decide p = true) => of_decide_eq_true z
  exact ⟨d q1, d q2, d q3, d q4, d q5, fun t ht => ⟨d (ba (List.all_eq_true.mp q6 t ht)).1, d (ba (List.all_eq_true.mp q6 t ht)).2⟩⟩
end VH

set_option maxRecDepth 100000
set_option maxHeartbeats 4000000
/-! A written dict has these keys alone. -/
namespace VH
open PySem PySem.Spec PyProof.Rows L2 He
def keyB (ks : List Str) (e : DictEntry) : Bool := match e.key with
  | .str x _ => ks.contains x
  | _ => false
def keysB (K : PySem.W.Frag) (a : Addr) (ks : List Str) : Bool := match K.lookup a with
  | some ⟨_, _, .dict es _, _⟩ => es.toList.all (keyB ks)
  | _ => false
theorem keysB_ok {K : PySem.W.Frag} {a : Addr} {ks : List Str} (h : keysB K a ks = true) {z : Str} (hz : ks.contains z = false) : PySem.W.nsIn K a z = some none := by
  unfold keysB at h
  unfold PySem.W.nsIn
  split at h
  · rename_i c d es n sl e
    rw [e]
    have all : ∀ x ∈ es.toList, keyB ks x = true := List.all_eq_true.mp h
    have f1 : es.toList.find? (·.key.isStr z) = none := by
      rw [List.find?_eq_none]
      intro x hx hs
      have := all x hx
      unfold keyB at this
      split at this
      · rename_i y t ey
        rw [ey] at hs
        have ez : y = z := by simpa [Value.isStr] using hs
        subst ez
        rw [hz] at this
        cases this
      · cases this
    have f2 : es.toList.any (·.refKey) = false := by
      rw [List.any_eq_false]
      intro x hx
      have := all x hx
      unfold keyB at this
      split at this
      · rename_i y t ey
        unfold DictEntry.refKey
        rw [ey]
        simp
      · cases this
    show (match es.toList.find? (·.key.isStr z) with | some e => some (some e.val) | none => if es.toList.any (·.refKey) then none else some none) = some none
    rw [f1]
    show (if es.toList.any (·.refKey) then none else some none) = some none
    rw [f2]
    rfl
  · cases h
end VH

set_option maxRecDepth 100000
set_option maxHeartbeats 0
namespace K01
open PySem PySem.Spec PyProof.Rows L2 He VH
def top (i : Nat) : Stmt := PySem.Challenge.pw_fillbehind_k01_whole_statements.main.body.getD i (.Pass ⟨0, 0, 0, 0⟩)
def exA (K : PySem.W.Frag) : Bool := dcB K && (clB K "NoStatement" [] && (tupB K (ga K "CHECKS") ["missing", "same old", "same new"] && (tupB K (ga K "READING") ["put", "read", "copy", "same old", "same new"] && (tupB K (ga K "TAKING") ["insert", "input"] && (entB K "PLACES" "set" [["keep", "input", "read"], ["keep", "none", "now", "read", "copy"]] && (entB K "PLACES" "put" [["none", "now", "read", "copy"]] && (entB K "PLACES" "insert" [["none", "now"]] && (entB K "PLACES" "delete" [] && (keysB K (ga K "PLACES") ["set", "put", "insert", "delete"] && ((["NoStatement"] : List Str).all fun c => (["NoStatement", "FillError"] : List Str).all fun d => decide (PySem.W.exmOne K (.ref (ga K c)) (.ref (ga K d)) = some (d == c || d == "FillError"))))))))))))
/-- NoStatement is a FillError, and a ValueError -/
def ex (K : PySem.W.Frag) : Bool := exA K && (decide (PySem.W.kitOne K (.ref (ga K "NoStatement")) (.ref (ga K "FillError")) = some true) && decide (PySem.W.kitOne K (.ref (ga K "NoStatement")) (.type "ValueError") = some true))
def names : List PySem.Str := ["is_word", "are_words", "is_statement", "checks_of", "has_word", "needs_read", "needs_input", "_law_draw", "_law_well", "_law_one", "_law_checks_all", "_law_statements", "_law_needs_read", "_law_needs_input", "_law_said", "_law_bent", "CHECKS", "READING", "TAKING", "PLACES", "NoStatement", "FillError"]
def fa0 : List He.Fa := [.glo "FillError", .glo "is_word", .glo "are_words", .glo "is_statement", .glo "checks_of", .glo "has_word", .glo "needs_read", .glo "needs_input", .glo "_law_draw", .glo "_law_well", .glo "_law_one", .glo "_law_checks_all", .glo "_law_statements", .glo "_law_needs_read", .glo "_law_needs_input", .glo "_law_said", .glo "_law_bent", .glo "law", .glo "CHECKS", .glo "READING", .glo "TAKING", .glo "PLACES", .free "len", .free "int"]
def fa1 : List He.Fa := [.free "range", .free "isinstance", .free "tuple", .free "str", .free "list", .free "all", .free "any", .free "zip", .free "set", .free "ValueError"]
def fa : List He.Fa := fa0 ++ (fa1)
def dd (i : Nat) (x : Str) : He.DefD := ⟨(x, none), x, x, defArgs (top i), defBody (top i), defScope (top i), [], []⟩
def dm (i : Nat) (x : Str) (j : Nat) (m q : Str) : He.DefD := ⟨(x, some m), m, q, defArgs (inClass (top i) j), defBody (inClass (top i) j), defScope (inClass (top i) j), [], []⟩
def fn : List He.DefD := [dd 4 "is_word", dd 5 "are_words", dd 11 "is_statement", dd 12 "checks_of", dd 13 "has_word", dd 14 "needs_read", dd 15 "needs_input", dd 17 "_law_draw", dd 18 "_law_well", dd 19 "_law_one", dd 20 "_law_checks_all", dd 21 "_law_statements", dd 22 "_law_needs_read", dd 23 "_law_needs_input", dd 24 "_law_said", dd 25 "_law_bent", dd 26 "law", dm 2 "NoStatement" 0 "__init__" "NoStatement.__init__"]
abbrev R : PySem.W.OpenRow := PySem.W.OpenLaw.row PySem.Challenge.rw_fillbehind_k01_whole_statements
/-- the defs whose lambdas are made, the written dicts -/
def tf : List He.Defn := [("law", none)]
def ts : List He.Tab := [((fun K => ga K "PLACES"), ["set", "put", "insert", "delete"])]
abbrev hk : PySem.W.Hook := He.hookX 5 fa fn ts tf ex
def ob (s : PySem.W.SharedT) : He.AlX := He.obsX 5 fa fn ts tf ex (HandSHeadRun.getT s)
theorem ob_eq (s : PySem.W.SharedT) : ob s = hk.obs s.abs := He.obsX_eq (HandSHeadRun.getT_eq s)
theorem run (w : World) : HandSHeadRun.RunEq R (PySem.W.view R.prog [26]) hk ob 20000 names w := by
  refine PySem.W.byRow2 "special-get-raises" (P := fun w => HandSHeadRun.RunEq R (PySem.W.view R.prog [26]) hk ob 20000 names w) (fun w => ?_) (fun w => ?_) w
  · intro os
    kernel_rfl
  · intro os
    kernel_rfl
end K01

set_option maxRecDepth 100000
set_option maxHeartbeats 4000000
/-! What every law's draws are made of: a list of three ints. -/
namespace L2
open PySem PySem.Spec PyProof.Rows
/-- two lists that are read, wherever they stand -/
def rCatR (K : PySem.W.Frag) : R2 := fun x y H Q => ∃ l b xs zs, x = .ref l ∧ y = .ref b ∧ SqL K H l xs ∧ SqL K H b zs ∧ xs.length + zs.length ≤ sizeLine ∧ ∀ p, H p = none → Q (.ref p) (upd H p (.lst (xs ++ zs)))
theorem op_catR {X : Cx} : OpR X (binaryOp .Add) (rCatR X.K) := by
  intro pins s σ H x y v u Q I rx ry h
  obtain ⟨l, b, xs, zs, rfl, rfl, a1, a2, few, q⟩ := h
  cases rx
  cases ry
  obtain ⟨i1, r1, ⟨⟨c1, d1, t1, s1⟩, n1, g1, p1, _, q1⟩, _⟩ := I.list a1
  obtain ⟨i2, r2, ⟨⟨c2, d2, t2, s2⟩, n2, g2, p2, _, q2⟩, _⟩ := I.list a2
  simp only at p1 q1 p2 q2
  subst p1 q1 p2 q2
  have ea : i1.toArray ++ i2.toArray = (i1 ++ i2).toArray := by simp
  refine PySem.concat_meets ⟨_, g1, rfl⟩ ⟨_, g2, rfl⟩ noFill_list_add seq_list_add PySem.F.slot_list_add PySem.F.entry_list_add (PySem.F.args_list_add_2 _ _)
    (list_addW l b i1.toArray i2.toArray n1 n2 d1 d2 s1 s2 (by rw [List.size_toArray, List.size_toArray, ← r1.length, ← r2.length]; omega)) ⟨g1, g2, ?_⟩
  rw [ea]
  exact ⟨.ref _, _, I.lnew (t' := s.toks) (r1.append r2) (by rw [List.length_append]; omega), rfl, q _ I.fresh⟩
/-- at a: a well -/
def Well (H : Hp) (a : Addr) : Prop := ∃ c b n : Int, H a = some (.lst [.int c, .int b, .int n])
/-- all but a is as it was -/
def But (a : Addr) (H H' : Hp) : Prop := ∀ b o, b ≠ a → H b = some o → H' b = some o
theorem But.same {a : Addr} {H H1 H' : Hp} (s : Same H H1) (h : But a H1 H') : But a H H' := fun b o n e => h b o n (s b o e)
theorem But.trans {a : Addr} {H H1 H' : Hp} (s : But a H H1) (h : But a H1 H') : But a H H' := fun b o n e => h b o n (s b o n e)
theorem But.upd {a : Addr} {H : Hp} {o : HO} : But a H (upd H a o) := fun b u n e => by rw [upd_ne n]; exact e
theorem But.of {a : Addr} {H H' : Hp} (s : Same H H') : But a H H' := fun b u _ e => s b u e
/-- the draw: an int below much -/
def spDraw : Sp := fun vs H Q _ => ∃ (a : Addr) (m : Int), vs = [.ref a, .int m] ∧ Well H a ∧ 0 < m ∧ m < 1073741824 ∧ ∀ (H' : Hp) (d : Int), 0 ≤ d → d < m → Well H' a → But a H H' → Q (.int d) H'
/-- the well of a number -/
def spWell (K : PySem.W.Frag) : Sp := fun vs H Q _ => ∃ (a : Addr) (ns : List Int) (k : Nat), vs = [.ref a, .int k] ∧ SqL K H a (ns.map V.int) ∧ ns.length ≤ 63 ∧ k ≤ 63 ∧ ∀ (H' : Hp) (p : Addr), H p = none → Well H' p → Same H H' → Q (.ref p) H'
/-- one of a list's items -/
def spOne (K : PySem.W.Frag) : Sp := fun vs H Q _ => ∃ (a l : Addr) (xs : List V), vs = [.ref a, .ref l] ∧ Well H a ∧ l ≠ a ∧ H l = some (.lst xs) ∧ 0 < xs.length ∧ xs.length < 1073741824 ∧ ∀ (H' : Hp) (x : V), x ∈ xs → Well H' a → But a H H' → Q x H'
theorem Same.new {H : Hp} {l : Addr} {o : HO} (n : H l = none) : Same H (upd H l o) := fun b u e => by
  rw [upd_ne (ne_of_none e n)]
  exact e
theorem Same.rd {H H' : Hp} {a : Addr} {u : HO} (e : Same H H') (r : Rd H a u) : Rd H' a u := by
  rcases r with r | ⟨o, r⟩
  · exact .inl (e _ _ r)
  · exact .inr ⟨o, e _ _ r⟩
theorem atI_some {α : Type} {xs : List α} {d : Int} (h0 : 0 ≤ d) (h1 : d < xs.length) : ∃ x, x ∈ xs ∧ atI xs d = some x := by
  obtain ⟨j, rfl⟩ : ∃ j : Nat, d = (j : Int) := ⟨d.toNat, by omega⟩
  have lt : j < xs.length := by omega
  exact ⟨xs[j], List.getElem_mem lt, atI_nat (List.getElem?_eq_getElem lt)⟩
end L2

set_option maxRecDepth 100000
set_option maxHeartbeats 4000000
/-! The promise of an own exception's __init__ that keeps its arguments as fields; making one. -/
namespace L2
open PySem PySem.Spec PyProof.Rows He
/-- .. new: its dict was not there in H -/
def IsExN (H H' : Hp) (a C : Addr) (fs : List (Str × V)) : Prop := (fs = [] ∧ H' a = some (exo a C none)) ∨ ∃ dx, H dx = none ∧ H' a = some (exo a C (some dx)) ∧ H' dx = some (exd dx fs)
theorem IsExN.is {H H' : Hp} {a C : Addr} {fs : List (Str × V)} (h : IsExN H H' a C fs) : IsEx H' a C fs := by
  rcases h with h | ⟨dx, _, h⟩
  · exact .inl h
  · exact .inr ⟨dx, h⟩
def spIni (K : PySem.W.Frag) (names : List Str) : Sp := fun vs H Q _ => ∃ (a C : Addr) (ws : List V), vs = .ref a :: ws ∧ ws.length = names.length ∧ OexC K C ∧ (∀ f ∈ names, PySem.W.findIn K (.ref C) f = some none) ∧
  H a = some (exo a C none) ∧ ∀ H', But a H H' → IsExN H H' a C (names.zip ws).reverse → Q .non H'
theorem ini1 {K : PySem.W.Frag} {f : Str} {vs : List V} {H : Hp} {Q : VK} {E : XK} (h : spIni K [f] vs H Q E) : ∃ (a C : Addr) (v : V), vs = [.ref a, v] ∧ OexC K C ∧ PySem.W.findIn K (.ref C) f = some none ∧ H a = some (exo a C none) ∧
    ∀ dx, H dx = none → dx ≠ a → Q .non (upd (upd H dx (exd dx [(f, v)])) a (exo a C (some dx))) := by
  obtain ⟨a, C, ws, rfl, l, T, no, ha, k⟩ := h
  match ws, l with
  | [v], _ =>
    refine ⟨a, C, v, rfl, T, no f (by simp), ha, fun dx n ne => k _ (fun b o hb e => ?_) (.inr ⟨dx, n, upd_same, ?_⟩)⟩
    · rw [upd_ne hb, upd_ne (ne_of_none e n)]
      exact e
    · rw [upd_ne ne]
      exact upd_same
theorem ini2 {K : PySem.W.Frag} {f g : Str} {vs : List V} {H : Hp} {Q : VK} {E : XK} (h : spIni K [f, g] vs H Q E) : ∃ (a C : Addr) (v u : V), vs = [.ref a, v, u] ∧ OexC K C ∧ PySem.W.findIn K (.ref C) f = some none ∧ PySem.W.findIn K (.ref C) g = some none ∧ H a = some (exo a C none) ∧
    ∀ dx, H dx = none → dx ≠ a → Q .non (upd (upd (upd H dx (exd dx [(f, v)])) a (exo a C (some dx))) dx (exd dx [(g, u), (f, v)])) := by
  obtain ⟨a, C, ws, rfl, l, T, no, ha, k⟩ := h
  match ws, l with
  | [v, u], _ =>
    refine ⟨a, C, v, u, rfl, T, no f (by simp), no g (by simp), ha, fun dx n ne => k _ (fun b o hb e => ?_) (.inr ⟨dx, n, ?_, upd_same⟩)⟩
    · rw [upd_ne (ne_of_none e n), upd_ne hb, upd_ne (ne_of_none e n)]
      exact e
    · rw [upd_ne (Ne.symm ne)]
      exact upd_same
theorem ini0 {K : PySem.W.Frag} {vs : List V} {H : Hp} {Q : VK} {E : XK} (h : spIni K [] vs H Q E) : ∃ a : Addr, vs = [.ref a] ∧ Q .non H := by
  obtain ⟨a, C, ws, rfl, l, T, no, ha, k⟩ := h
  match ws, l with
  | [], _ => exact ⟨a, rfl, k H (fun _ _ _ e => e) (.inl ⟨rfl, ha⟩)⟩
/-- how it binds by place -/
theorem KBn.of {K : PySem.W.Frag} {fd : FuncData} {ps : List Str} {n : Nat} (b : Binds K fd ps []) (l : ps.length = n) : KBn K fd ps n [] (fun us _ => us) (fun vs _ => vs) :=
  ⟨fun s us ws X l1 _ => by
    have h := b s us X (by rw [List.append_nil, l1, l])
    rw [List.append_nil] at h
    exact h, fun r _ => r⟩
/-- .. by name, without defaults -/
theorem FunD.byName {K : PySem.W.Frag} {x qual : Str} {params : Arguments} {body : List Stmt} {scope : Scope} {kws : List (Str × V)} {f : Addr} {fd : FuncData} {ps : List Str} (F : FunD K x qual params body scope [] kws f fd) (n : Nat) (ks : List Str) (g : {α : Type} → List α → List α → List α)
    (rel : ∀ {vs zs : List V} {us ws : List Value}, Vals vs us → Vals zs ws → Vals (g vs zs) (g us ws))
    (h : ∀ (kV doc pm : Value) (an : Option Addr) (cdv ct : Value) (us ws : List Value), us.length = n → ws.length = ks.length → bindArgs (PySem.W.fnOf x qual params body scope .none kV doc pm an cdv ct) ⟨us, ks.zip ws⟩ = pure (ps.zip (g us ws))) :
    KBn K fd ps n ks (fun us ws => g us ws) (fun vs zs => g vs zs) := by
  obtain ⟨oc, od, dV, kV, doc, pm, an, cdv, ct, osl, rfl, lk, hcd, hD, hK⟩ := F.ex
  rcases hD with ⟨_, rfl⟩ | ⟨e, _⟩
  · exact ⟨fun s us ws X l1 l2 => .of_eq (h kV doc pm an cdv ct us ws l1 l2), rel⟩
  · exact absurd rfl e
/-- the reading of C(..) -/
theorem read_mkX {K K' : PySem.W.Frag} {x : Str} {names : List Str} (T : VH.ClOk K x names) {H : Hp} {R : VK} {as : List V} {a : Addr} (ws : List V) (n : H a = none) (eK : K' = K) (l : ws.length = names.length) (hg : as = .ref a :: ws)
    (k : ∀ H', Same H H' → IsEx H' a (ga K x) (names.zip ws).reverse → R .non H') : spIni K' names as (upd H a (exo a (ga K x) none)) R E0 := by
  subst eK
  exact ⟨a, ga K' x, ws, hg, l, T.mkx.toOexC, T.no, upd_same, fun H' bt is => k H' (fun b o e => bt b o (ne_of_none e n) (by
    rw [upd_ne (ne_of_none e n)]
    exact e)) is.is⟩
/-- the reading of raise C(..): Q of the class, the dict, the heap with it -/
theorem read_raise {K K' : PySem.W.Frag} {x : Str} {names : List Str} (T : VH.ClOk K x names) {H : Hp} {Q : XK} {as : List V} {a : Addr} (ws : List V) (n : H a = none) (eK : K' = K) (l : ws.length = names.length) (ne : ws ≠ []) (hg : as = .ref a :: ws)
    (k : ∀ (d : Addr) (H' : Hp), H d = none → Same H H' → H' d = some (.xd (names.zip ws).reverse) → Q (.ref (ga K x)) (some d) H') :
    spIni K' names as (upd H a (exo a (ga K x) none)) (fun v H2 => v = .non ∧ ∃ (d : Addr) (fs : List (Str × V)), H2 a = some (exo a (ga K x) (some d)) ∧ H2 d = some (exd d fs) ∧ H d = none ∧ Q (.ref (ga K x)) (some d) (upd (del H2 a) d (.xd fs))) (fun _ _ _ => False) := by
  subst eK
  refine ⟨a, ga K' x, ws, hg, l, T.mkx.toOexC, T.no, upd_same, fun H' bt is => ⟨rfl, ?_⟩⟩
  rcases is with ⟨z, _⟩ | ⟨dx, nd, e1, e2⟩
  · exfalso
    match ws, names, l, ne with
    | w :: ws, f :: fs, _, _ => simp at z
    | w :: ws, [], l, _ => simp at l
    | [], _, _, ne => exact ne rfl
  · have da : dx ≠ a := fun z => by
      rw [z, upd_same] at nd
      cases nd
    have nd' : H dx = none := by
      rw [upd_ne da] at nd
      exact nd
    refine ⟨dx, _, e1, e2, nd', k dx _ nd' (fun b o e => ?_) upd_same⟩
    have ba' : b ≠ a := ne_of_none e n
    rw [upd_ne (ne_of_none e nd'), del_ne ba']
    exact bt b o ba' (by
      rw [upd_ne ba']
      exact e)
/-- a row of such objects: their classes' names, their fields -/
def ExL (K : PySem.W.Frag) (H : Hp) : List V → List (Str × List (Str × V)) → Prop
  | [], [] => True
  | v :: vs, c :: cs => (∃ a, v = .ref a ∧ IsEx H a (ga K c.1) c.2) ∧ ExL K H vs cs
  | _, _ => False
theorem ExL.same {K : PySem.W.Frag} {H H' : Hp} (e : Same H H') : ∀ {vs : List V} {cs : List (Str × List (Str × V))}, ExL K H vs cs → ExL K H' vs cs
  | [], [], _ => trivial
  | [], _ :: _, h => h.elim
  | _ :: _, [], h => h.elim
  | v :: vs, c :: cs, ⟨⟨a, z, is⟩, h⟩ => ⟨⟨a, z, is.same e⟩, ExL.same e h⟩
theorem ExL.snoc {K : PySem.W.Frag} {H H' : Hp} {a : Addr} {c : Str × List (Str × V)} (e : Same H H') (is : IsEx H' a (ga K c.1) c.2) : ∀ {vs : List V} {cs : List (Str × List (Str × V))}, ExL K H vs cs → ExL K H' (vs ++ [.ref a]) (cs ++ [c])
  | [], [], _ => ⟨⟨a, rfl, is⟩, trivial⟩
  | [], _ :: _, h => h.elim
  | _ :: _, [], h => h.elim
  | v :: vs, d :: cs, ⟨⟨b, z, is'⟩, h⟩ => ⟨⟨b, z, is'.same e⟩, ExL.snoc e is h⟩
theorem ExL.len {K : PySem.W.Frag} {H : Hp} : ∀ {vs : List V} {cs : List (Str × List (Str × V))}, ExL K H vs cs → vs.length = cs.length
  | [], [], _ => rfl
  | [], _ :: _, h => h.elim
  | _ :: _, [], h => h.elim
  | v :: vs, c :: cs, ⟨_, h⟩ => congrArg Nat.succ h.len
theorem ExL.at {K : PySem.W.Frag} {H : Hp} : ∀ {vs : List V} {cs : List (Str × List (Str × V))} {i : Nat} {c : Str × List (Str × V)}, ExL K H vs cs → cs[i]? = some c → ∃ a, vs[i]? = some (.ref a) ∧ IsEx H a (ga K c.1) c.2
  | [], [], _, _, _, e => by cases e
  | [], _ :: _, _, _, h, _ => h.elim
  | _ :: _, [], _, _, h, _ => h.elim
  | v :: vs, d :: cs, 0, c, ⟨⟨a, z, is⟩, _⟩, e => by
    have e' : d = c := Option.some.inj e
    rw [← e']
    exact ⟨a, congrArg some z, is⟩
  | v :: vs, d :: cs, i + 1, c, ⟨_, h⟩, e => ExL.at h (i := i) e
end L2

set_option maxRecDepth 100000
set_option maxHeartbeats 4000000
/-! A comparison by an own method, of an own instance with anything of a known type; whatever the method answers. -/
namespace L2
open PySem PySem.Spec PyProof.Rows
section
variable {X : Cx} {CX : CXT} {C g : Addr} {n : Nat} {sp : Sp} {E : XK} {op : CmpOp}
/-- x op y: x an instance of C, whose method for op has the promise sp; y's type is C, or known to be none below it -/
def rOwnA (K : PySem.W.Frag) (C : Addr) (sp : Sp) (E : XK) (X : Cx) : R2 := fun x y H Q =>
  ∃ (a : Addr) (t : Value), x = .ref a ∧ StX.InsC X H a C ∧ TyX K H y t ∧ PySem.W.notFirst K C t = true ∧ sp [x, y] H Q E
theorem op_ownA (hop : ∀ a b : Value, compareOp op a b = richCompare op a b)
    (hf : PySem.W.findIn X.K (.ref C) (cmpInfo op).2.1 = some (some (.ref g))) (fn : PySem.W.isFn X.K (.ref g) = true)
    (F : FnR X.prog X.w X.K X.mg X.base CX n g sp) (hr : Room n X.A) (hx : Passes CX X E) : OpR X (compareOp op) (rOwnA X.K C sp E X) := by
  intro pins s σ H x y v u Q I rx ry h
  obtain ⟨a, t, rfl, ia, ty, nf, q⟩ := h
  cases (show v = Value.ref a from rx)
  rw [hop]
  obtain ⟨ox, od, at_, _⟩ := StX.insC_at I ia
  obtain ⟨P, kx, hp, _⟩ := kit_of I ry ty
  obtain ⟨m, fr⟩ := I.fr
  have kin : X.K.In s.heap := PySem.W.Frag.In.keeps I.ok.mod.kin fr.keep
  have un : X.A.units < cLine := by
    have := hr.un
    omega
  refine PySem.W.cmp_K un fr I.ok.mod.kin at_ (kx.ty _ _ kin hp) nf hf fn (wpAny_call ?_)
  refine codeAny_mono (SlX.run_at F hr I.env0 hx I (.cons rx (.cons ry .nil)) q) fun r s' z => ?_
  split at z
  · obtain ⟨w', H', I', rw', q'⟩ := z
    exact SlX.cmpback rw' ⟨w', H', I', rw', q'⟩
  · exact z.elim
  · exact z
end
end L2

set_option maxRecDepth 100000
set_option maxHeartbeats 4000000
/-! != of an own instance whose class has an own __eq__ and object's __ne__, with anything of a known type. -/
namespace PySem.W
open PySem PySem.Spec PySem.Calls PyProof.Rows
section
variable {prog : Program} {w : World} {A : Around} {E : Value → Shared → Prop} {s : Shared} {K : Frag} {x C g : Addr} {ox : Obj} {od : Option Obj} {b : Value}
theorem ifBound_ne {Q : Option Value → Shared → Prop} (hu : A.units + 1 < cLine) (X : K.In s.heap) (I : InstAt s.heap x ox C od)
    (hn : findIn K (.ref C) "__ne__" = some (some (.builtin "object.__ne__"))) (ho : subIn K (.ref C) (.type "object") = some true)
    (he : findIn K (.ref C) "__eq__" = some (some (.ref g))) (fn : isFn K (.ref g) = true)
    (h : wpAny (model prog w) A.in1 (call (.ref g) [.ref x, b]) (fun v s' => ∃ c, v = .bool c ∧ Q (some (.bool !c)) s') E s) :
    wpAny (model prog w) A (callSpecialIfBound? (.ref x) "__ne__" [b]) Q E s := by
  have fin : wpAny (model prog w) A (call (.builtin "object.__ne__") ([.ref x] ++ [b]) >>= fun r => pure (some r)) Q E s := by
    refine wpAny_bind (wpAny_call (codeAny_call_builtin PySem.F.slot_object_ne.plain PySem.F.entry_object_ne ?_))
    have sub : Looks (model prog w) s.heap (isInstance (.ref x) (.type "object")) true := (I.type (M := model prog w)).andThen (looks_subIn X ho)
    refine check_slot (n := "__ne__") (owner := "object") (by decide +kernel) (by decide +kernel) sub (PySem.F.args_object_ne_2 (.ref x) b) ?_
    unfold Builtin.«object.__ne__»
    refine wpAny_bind (wpAny_of_eq (a := ((Value.ref x : Value), [b])) (by
      first | rfl | (simp only [slotArgs]; rfl)) ?_)
    refine wpAny_bind (wpAny_cRoomFor hu ?_)
    refine wpAny_bind (ifBound_K X I he fn (wpAny_mono h (fun v s' z => ?_) (fun _ _ z => z)))
    obtain ⟨c, rfl, q⟩ := z
    show wpAny _ _ (truthy (.bool c) >>= fun t => ret (.bool !t)) _ _ _
    refine wpAny_bind (wpAny_of_eq (a := c) (by rfl) ?_)
    exact wpAny_pure (wpAny_pure q)
  unfold callSpecialIfBound? bindSpecialIfBound? specialOf
  refine wpAny_holding (wpAny_bind (wpAny_bind (wpAny_bind ((I.type (M := model prog w)).here ((looks_findIn (M := model prog w) X hn).here ?_)))))
  refine wpAny_bind (wpAny_askSetting ?_)
  have bnd : bindSpecial (Value.builtin "object.__ne__") (.ref x) = pure (Value.builtin "object.__ne__", [.ref x]) := PySem.F.slot_object_ne.bind _
  show wpAny _ _ (if _ then _ else _) _ _ _
  rw [bnd]
  refine wpAny_ite ?_
  split
  · exact wpAny_bind (wpAny_pure (wpAny_pure fin))
  · exact wpAny_tryCatch (wpAny_bind (wpAny_pure (wpAny_pure fin)))
end
end PySem.W
namespace PySem.W
open PySem PySem.Spec PySem.Calls PyProof.Rows
section
variable {prog : Program} {w : World} {A : Around} {E : Value → Shared → Prop} {s : Shared} {K : Frag} {x C g : Addr} {ox : Obj} {od : Option Obj} {b tb : Value}
theorem cmp_ne {Q : Value → Shared → Prop} (hu : A.units + 1 < cLine) (X : K.In s.heap) (I : InstAt s.heap x ox C od)
    (hb : Looks (model prog w) s.heap (typeOf b) tb) (nf : notFirst K C tb = true)
    (hn : findIn K (.ref C) "__ne__" = some (some (.builtin "object.__ne__"))) (ho : subIn K (.ref C) (.type "object") = some true)
    (he : findIn K (.ref C) "__eq__" = some (some (.ref g))) (fn : isFn K (.ref g) = true)
    (h : wpAny (model prog w) A.in1 (call (.ref g) [.ref x, b]) (fun v s' => ∃ c, v = .bool c ∧ Q (.bool !c) s') E s) :
    wpAny (model prog w) A (richCompare .NotEq (.ref x) b) Q E s := by
  have one : wpAny (model prog w) A (tryCompare (.ref x) "__ne__" b) (fun r s' => ∃ v, r = some v ∧ Q v s') E s := by
    unfold tryCompare
    refine wpAny_bind (ifBound_ne hu X I hn ho he fn (wpAny_mono h (fun v s' z => ?_) (fun _ _ z => z)))
    obtain ⟨c, rfl, q⟩ := z
    exact ⟨c, rfl, wpAny_pure ⟨_, rfl, q⟩⟩
  unfold richCompare
  refine wpAny_holding (wpAny_bind (wpAny_cRoomFor (by omega) ?_))
  refine wpAny_bind ((I.type (M := model prog w)).here (wpAny_bind (hb.here ?_)))
  unfold notFirst at nf
  refine wpAny_ite ?_
  split
  · rename_i ne
    have sb : subIn K tb (.ref C) = some false := by
      rcases Bool.or_eq_true_iff.mp nf with q | q
      · have e : tb = .ref C := eq_of_beq q
        subst e
        simp at ne
      · exact eq_of_beq q
    refine wpAny_bind ((looks_subIn X sb).here ?_)
    show wpAny _ _ (tryCompare (.ref x) "__ne__" b >>= _) _ _ _
    exact wpAny_bind (wpAny_mono one (fun r s' z => by
      obtain ⟨v, rfl, q⟩ := z
      exact wpAny_pure q) (fun _ _ z => z))
  · refine wpAny_bind (wpAny_pure ?_)
    show wpAny _ _ (tryCompare (.ref x) "__ne__" b >>= _) _ _ _
    exact wpAny_bind (wpAny_mono one (fun r s' z => by
      obtain ⟨v, rfl, q⟩ := z
      exact wpAny_pure q) (fun _ _ z => z))
end
end PySem.W
namespace L2
open PySem PySem.Spec PyProof.Rows
section
variable {X : Cx} {CX : CXT} {C g : Addr} {n : Nat} {sp : Sp} {E : XK}
/-- x != y by C's own __eq__ -/
def rNeA (K : PySem.W.Frag) (C : Addr) (sp : Sp) (E : XK) (X : Cx) : R2 := fun x y H Q =>
  ∃ (a : Addr) (t : Value), x = .ref a ∧ StX.InsC X H a C ∧ TyX K H y t ∧ PySem.W.notFirst K C t = true ∧
    sp [x, y] H (fun z H' => ∃ c : Bool, z = .bl c ∧ Q (.bl !c) H') E
theorem op_neA (hn : PySem.W.findIn X.K (.ref C) "__ne__" = some (some (.builtin "object.__ne__"))) (ho : PySem.W.subIn X.K (.ref C) (.type "object") = some true)
    (he : PySem.W.findIn X.K (.ref C) "__eq__" = some (some (.ref g))) (fn : PySem.W.isFn X.K (.ref g) = true)
    (F : FnR X.prog X.w X.K X.mg X.base CX n g sp) (hr : Room (n + 1) X.A) (hx : Passes CX X E) : OpR X (compareOp .NotEq) (rNeA X.K C sp E X) := by
  intro pins s σ H x y v u Q I rx ry h
  obtain ⟨a, t, rfl, ia, ty, nf, q⟩ := h
  cases (show v = Value.ref a from rx)
  show wpAny _ _ (richCompare .NotEq _ _) _ _ _
  obtain ⟨ox, od, at_, _⟩ := StX.insC_at I ia
  obtain ⟨P, kx, hp, _⟩ := kit_of I ry ty
  obtain ⟨m, fr⟩ := I.fr
  have kin : X.K.In s.heap := PySem.W.Frag.In.keeps I.ok.mod.kin fr.keep
  have un : X.A.units + 1 < cLine := by
    have := hr.un
    omega
  have sub : Sub X n X.A.in1 := Sub.in1 ⟨hr, rfl⟩
  have en : Env0 X.prog X.w X.K X.mg X.base X.A.in1 X.stack s H := by
    have e := I.env0
    exact ⟨e.frames, e.mod, e.bs, e.bsz, e.funs, e.frf, e.hok, e.bare⟩
  refine PySem.W.cmp_ne un kin at_ (kx.ty _ _ kin hp) nf hn ho he fn (wpAny_call ?_)
  refine codeAny_mono (SlX.run_at F sub.room en hx I (.cons rx (.cons ry .nil)) q) fun r s' z => ?_
  split at z
  · obtain ⟨w', H', I', rw', c, rfl, q'⟩ := z
    exact ⟨c, rw', .bl !c, H', I', rfl, q'⟩
  · exact z.elim
  · exact z
end
end L2

set_option maxRecDepth 100000
set_option maxHeartbeats 4000000
namespace L2
open PySem PySem.Spec PyProof.Rows He
/-- the reading of raise C(..) -/
theorem read_rz {K K' : PySem.W.Frag} {x : Str} {names : List Str} (T : VH.ClOk K x names) {H : Hp} {R : VK} {as : List V} {a : Addr} (ws : List V) (n : H a = none) (eK : K' = K) (l : ws.length = names.length) (ne : ws ≠ []) (hg : as = .ref a :: ws)
    (k : ∀ (d : Addr) (H2 : Hp), H2 a = some (exo a (ga K x) (some d)) → H2 d = some (exd d (names.zip ws).reverse) → H d = none → Same H (upd (del H2 a) d (.xd (names.zip ws).reverse)) → R .non H2) :
    spIni K' names as (upd H a (exo a (ga K x) none)) R (fun _ _ _ => False) := by
  subst eK
  refine ⟨a, ga K' x, ws, hg, l, T.mkx.toOexC, T.no, upd_same, fun H' bt is => ?_⟩
  rcases is with ⟨z, _⟩ | ⟨dx, nd, e1, e2⟩
  · exfalso
    match ws, names, l, ne with
    | w :: ws, f :: fs, _, _ => simp at z
    | w :: ws, [], l, _ => simp at l
    | [], _, _, ne => exact ne rfl
  · have da : dx ≠ a := fun z => by
      rw [z, upd_same] at nd
      cases nd
    have nd' : H dx = none := by
      rw [upd_ne da] at nd
      exact nd
    refine k dx H' e1 e2 nd' (fun b o e => ?_)
    have ba' : b ≠ a := ne_of_none e n
    rw [upd_ne (ne_of_none e nd'), del_ne ba']
    exact bt b o ba' (by
      rw [upd_ne ba']
      exact e)
end L2

set_option maxRecDepth 100000
set_option maxHeartbeats 4000000
namespace K01
open PySem PySem.Spec PyProof.Rows L2 He VH
abbrev FnP (K : PySem.W.Frag) (x : Str) (st : Stmt) (f : Addr) (fd : FuncData) : Prop := FunD K x x (defArgs st) (defBody st) (defScope st) [] [] f fd
abbrev FnM (K : PySem.W.Frag) (m q : Str) (i j : Nat) (f : Addr) (fd : FuncData) : Prop := FunD K m q (defArgs (inClass (top i) j)) (defBody (inClass (top i) j)) (defScope (inClass (top i) j)) [] [] f fd
/-- what the written part says -/
structure Txt (K : PySem.W.Frag) (mg : Str → Option Value) (w : World) : Prop where
  x_NoStatement : ClOk K "NoStatement" []
  m_NoStatement : mg "NoStatement" = some (.ref (ga K "NoStatement"))
  t_CHECKS : ∀ H, SqT K H (ga K "CHECKS") ((["missing", "same old", "same new"] : List Str).map V.str)
  t_READING : ∀ H, SqT K H (ga K "READING") ((["put", "read", "copy", "same old", "same new"] : List Str).map V.str)
  t_TAKING : ∀ H, SqT K H (ga K "TAKING") ((["insert", "input"] : List Str).map V.str)
  d_PLACES_set : Ent K "PLACES" "set" [["keep", "input", "read"], ["keep", "none", "now", "read", "copy"]]
  d_PLACES_put : Ent K "PLACES" "put" [["none", "now", "read", "copy"]]
  d_PLACES_insert : Ent K "PLACES" "insert" [["none", "now"]]
  d_PLACES_delete : Ent K "PLACES" "delete" []
  ks_PLACES : ∀ z : Str, (["set", "put", "insert", "delete"] : List Str).contains z = false → PySem.W.nsIn K (ga K "PLACES") z = some none
  xm : ∀ c ∈ (["NoStatement"] : List Str), ∀ d ∈ (["NoStatement", "FillError"] : List Str), PySem.W.exmOne K (.ref (ga K c)) (.ref (ga K d)) = some (d == c || d == "FillError")
  dc1 : PySem.W.specialIn K (.builtin "object.__class__") "__get__" = some (some (.builtin "getset_descriptor.__get__"))
  dc2 : PySem.W.takesIn K (.builtin "object.__class__") = some true
  dict_PLACES : ∃ es n, KDict K w (ga K "PLACES") es n
  m_FillError : mg "FillError" = some (.ref (ga K "FillError"))
  m_is_word : mg "is_word" = some (.ref (ga K "is_word"))
  m_are_words : mg "are_words" = some (.ref (ga K "are_words"))
  m_is_statement : mg "is_statement" = some (.ref (ga K "is_statement"))
  m_checks_of : mg "checks_of" = some (.ref (ga K "checks_of"))
  m_has_word : mg "has_word" = some (.ref (ga K "has_word"))
  m_needs_read : mg "needs_read" = some (.ref (ga K "needs_read"))
  m_needs_input : mg "needs_input" = some (.ref (ga K "needs_input"))
  m_l_draw : mg "_law_draw" = some (.ref (ga K "_law_draw"))
  m_l_well : mg "_law_well" = some (.ref (ga K "_law_well"))
  m_l_one : mg "_law_one" = some (.ref (ga K "_law_one"))
  m_l_checks_all : mg "_law_checks_all" = some (.ref (ga K "_law_checks_all"))
  m_l_statements : mg "_law_statements" = some (.ref (ga K "_law_statements"))
  m_l_needs_read : mg "_law_needs_read" = some (.ref (ga K "_law_needs_read"))
  m_l_needs_input : mg "_law_needs_input" = some (.ref (ga K "_law_needs_input"))
  m_l_said : mg "_law_said" = some (.ref (ga K "_law_said"))
  m_l_bent : mg "_law_bent" = some (.ref (ga K "_law_bent"))
  m_law : mg "law" = some (.ref (ga K "law"))
  m_CHECKS : mg "CHECKS" = some (.ref (ga K "CHECKS"))
  m_READING : mg "READING" = some (.ref (ga K "READING"))
  m_TAKING : mg "TAKING" = some (.ref (ga K "TAKING"))
  m_PLACES : mg "PLACES" = some (.ref (ga K "PLACES"))
  g_len : mg "len" = none
  g_int : mg "int" = none
  g_range : mg "range" = none
  g_isinstance : mg "isinstance" = none
  g_tuple : mg "tuple" = none
  g_str : mg "str" = none
  g_list : mg "list" = none
  g_all : mg "all" = none
  g_any : mg "any" = none
  g_zip : mg "zip" = none
  g_set : mg "set" = none
  g_ValueError : mg "ValueError" = none
theorem txt_of {w : World} {K : PySem.W.Frag} {h : Heap} {mg : Str → Option Value} (X : K.In h) (G : h.Ns mainGlobals mg) (cx : He.SaysX fa fn ts tf ex w h K) : Txt K mg w := by
  have g : SaysD fa fn K := cx.t.d
  have e := (ba (show (exA K && _) = true from cx.more)).1
  unfold exA at e
  obtain ⟨e0, z0⟩ := ba e
  obtain ⟨e1, z1⟩ := ba z0
  obtain ⟨e2, z2⟩ := ba z1
  obtain ⟨e3, z3⟩ := ba z2
  obtain ⟨e4, z4⟩ := ba z3
  obtain ⟨e5, z5⟩ := ba z4
  obtain ⟨e6, z6⟩ := ba z5
  obtain ⟨e7, z7⟩ := ba z6
  obtain ⟨e8, z8⟩ := ba z7
  obtain ⟨e9, z9⟩ := ba z8
  unfold dcB at e0
  obtain ⟨q1, q2⟩ := ba e0
  exact { x_NoStatement := clB_ok e1, m_NoStatement := PySem.W.mg_of X G (clB_ok e1).gl, t_CHECKS := tupB_ok e2, t_READING := tupB_ok e3, t_TAKING := tupB_ok e4, d_PLACES_set := entB_ok e5, d_PLACES_put := entB_ok e6, d_PLACES_insert := entB_ok e7, d_PLACES_delete := entB_ok e8, ks_PLACES := fun _ h => keysB_ok e9 h, xm := fun c hc x hx => of_decide_eq_true (List.all_eq_true.mp (List.all_eq_true.mp z9 c hc) x hx), dc1 := of_decide_eq_true q1, dc2 := of_decide_eq_true q2, dict_PLACES := cx.t.tab 0, m_FillError := glo_ok X G (g.fact 0 (f := .glo "FillError") rfl), m_is_word := glo_ok X G (g.fact 1 (f := .glo "is_word") rfl), m_are_words := glo_ok X G (g.fact 2 (f := .glo "are_words") rfl), m_is_statement := glo_ok X G (g.fact 3 (f := .glo "is_statement") rfl), m_checks_of := glo_ok X G (g.fact 4 (f := .glo "checks_of") rfl), m_has_word := glo_ok X G (g.fact 5 (f := .glo "has_word") rfl), m_needs_read := glo_ok X G (g.fact 6 (f := .glo "needs_read") rfl), m_needs_input := glo_ok X G (g.fact 7 (f := .glo "needs_input") rfl), m_l_draw := glo_ok X G (g.fact 8 (f := .glo "_law_draw") rfl), m_l_well := glo_ok X G (g.fact 9 (f := .glo "_law_well") rfl), m_l_one := glo_ok X G (g.fact 10 (f := .glo "_law_one") rfl), m_l_checks_all := glo_ok X G (g.fact 11 (f := .glo "_law_checks_all") rfl), m_l_statements := glo_ok X G (g.fact 12 (f := .glo "_law_statements") rfl), m_l_needs_read := glo_ok X G (g.fact 13 (f := .glo "_law_needs_read") rfl), m_l_needs_input := glo_ok X G (g.fact 14 (f := .glo "_law_needs_input") rfl), m_l_said := glo_ok X G (g.fact 15 (f := .glo "_law_said") rfl), m_l_bent := glo_ok X G (g.fact 16 (f := .glo "_law_bent") rfl), m_law := glo_ok X G (g.fact 17 (f := .glo "law") rfl), m_CHECKS := glo_ok X G (g.fact 18 (f := .glo "CHECKS") rfl), m_READING := glo_ok X G (g.fact 19 (f := .glo "READING") rfl), m_TAKING := glo_ok X G (g.fact 20 (f := .glo "TAKING") rfl), m_PLACES := glo_ok X G (g.fact 21 (f := .glo "PLACES") rfl), g_len := free_ok X G (g.fact 22 (f := .free "len") rfl), g_int := free_ok X G (g.fact 23 (f := .free "int") rfl), g_range := free_ok X G (g.fact 24 (f := .free "range") rfl), g_isinstance := free_ok X G (g.fact 25 (f := .free "isinstance") rfl), g_tuple := free_ok X G (g.fact 26 (f := .free "tuple") rfl), g_str := free_ok X G (g.fact 27 (f := .free "str") rfl), g_list := free_ok X G (g.fact 28 (f := .free "list") rfl), g_all := free_ok X G (g.fact 29 (f := .free "all") rfl), g_any := free_ok X G (g.fact 30 (f := .free "any") rfl), g_zip := free_ok X G (g.fact 31 (f := .free "zip") rfl), g_set := free_ok X G (g.fact 32 (f := .free "set") rfl), g_ValueError := free_ok X G (g.fact 33 (f := .free "ValueError") rfl) }
theorem kit_of {w : World} {K : PySem.W.Frag} {h : Heap} (cx : He.SaysX fa fn ts tf ex w h K) : PySem.W.kitOne K (.ref (ga K "NoStatement")) (.ref (ga K "FillError")) = some true ∧ PySem.W.kitOne K (.ref (ga K "NoStatement")) (.type "ValueError") = some true := by
  have e := (ba (show (exA K && (decide (PySem.W.kitOne K (.ref (ga K "NoStatement")) (.ref (ga K "FillError")) = some true) && decide (PySem.W.kitOne K (.ref (ga K "NoStatement")) (.type "ValueError") = some true))) = true from cx.more)).2
  obtain ⟨e1, e2⟩ := ba e
  exact ⟨of_decide_eq_true e1, of_decide_eq_true e2⟩
/-- all defs and methods -/
structure Fns (K : PySem.W.Frag) : Prop where
  f_is_word : ∃ fd, FnP K "is_word" (top 4) (ga K "is_word") fd
  f_are_words : ∃ fd, FnP K "are_words" (top 5) (ga K "are_words") fd
  f_is_statement : ∃ fd, FnP K "is_statement" (top 11) (ga K "is_statement") fd
  f_checks_of : ∃ fd, FnP K "checks_of" (top 12) (ga K "checks_of") fd
  f_has_word : ∃ fd, FnP K "has_word" (top 13) (ga K "has_word") fd
  f_needs_read : ∃ fd, FnP K "needs_read" (top 14) (ga K "needs_read") fd
  f_needs_input : ∃ fd, FnP K "needs_input" (top 15) (ga K "needs_input") fd
  f_l_draw : ∃ fd, FnP K "_law_draw" (top 17) (ga K "_law_draw") fd
  f_l_well : ∃ fd, FnP K "_law_well" (top 18) (ga K "_law_well") fd
  f_l_one : ∃ fd, FnP K "_law_one" (top 19) (ga K "_law_one") fd
  f_l_checks_all : ∃ fd, FnP K "_law_checks_all" (top 20) (ga K "_law_checks_all") fd
  f_l_statements : ∃ fd, FnP K "_law_statements" (top 21) (ga K "_law_statements") fd
  f_l_needs_read : ∃ fd, FnP K "_law_needs_read" (top 22) (ga K "_law_needs_read") fd
  f_l_needs_input : ∃ fd, FnP K "_law_needs_input" (top 23) (ga K "_law_needs_input") fd
  f_l_said : ∃ fd, FnP K "_law_said" (top 24) (ga K "_law_said") fd
  f_l_bent : ∃ fd, FnP K "_law_bent" (top 25) (ga K "_law_bent") fd
  f_law : ∃ fd, FnP K "law" (top 26) (ga K "law") fd
  f_NoStatement_init : ∃ fd, FnM K "__init__" "NoStatement.__init__" 2 0 (ma K (ga K "NoStatement") "__init__") fd
theorem fns_of {K : PySem.W.Frag} (g : SaysD fa fn K) : Fns K := by
  have a0 := g.def_ 0 (d := dd 4 "is_word") rfl
  have a1 := g.def_ 1 (d := dd 5 "are_words") rfl
  have a2 := g.def_ 2 (d := dd 11 "is_statement") rfl
  have a3 := g.def_ 3 (d := dd 12 "checks_of") rfl
  have a4 := g.def_ 4 (d := dd 13 "has_word") rfl
  have a5 := g.def_ 5 (d := dd 14 "needs_read") rfl
  have a6 := g.def_ 6 (d := dd 15 "needs_input") rfl
  have a7 := g.def_ 7 (d := dd 17 "_law_draw") rfl
  have a8 := g.def_ 8 (d := dd 18 "_law_well") rfl
  have a9 := g.def_ 9 (d := dd 19 "_law_one") rfl
  have a10 := g.def_ 10 (d := dd 20 "_law_checks_all") rfl
  have a11 := g.def_ 11 (d := dd 21 "_law_statements") rfl
  have a12 := g.def_ 12 (d := dd 22 "_law_needs_read") rfl
  have a13 := g.def_ 13 (d := dd 23 "_law_needs_input") rfl
  have a14 := g.def_ 14 (d := dd 24 "_law_said") rfl
  have a15 := g.def_ 15 (d := dd 25 "_law_bent") rfl
  have a16 := g.def_ 16 (d := dd 26 "law") rfl
  have a17 := g.def_ 17 (d := dm 2 "NoStatement" 0 "__init__" "NoStatement.__init__") rfl
  exact ⟨a0, a1, a2, a3, a4, a5, a6, a7, a8, a9, a10, a11, a12, a13, a14, a15, a16, a17⟩
end K01

set_option maxRecDepth 100000
set_option maxHeartbeats 4000000
/-! What is walked may be a list or a tuple; texts told among values. -/
namespace L2
open PySem PySem.Spec PyProof.Rows
/-- two ways to read what is walked -/
def iOr (a b : TI) : TI := fun σ H R => a σ H R ∨ b σ H R
theorem pi_or {X : Cx} {tg e : Expr} {a b : TI} (ha : PI X tg e a) (hb : PI X tg e b) : PI X tg e (iOr a b) := ⟨fun pins s σ H R I h => h.elim (ha.run pins s σ H R I) (hb.run pins s σ H R I)⟩
/-- a list, or a tuple -/
def SqV (K : PySem.W.Frag) (H : Hp) (a : Addr) (xs : List V) : Prop := SqL K H a xs ∨ SqT K H a xs
theorem SqL.same {K : PySem.W.Frag} {H H' : Hp} {a : Addr} {xs : List V} (h : SqL K H a xs) (s : Same H H') : SqL K H' a xs := by
  rcases h with (h | ⟨o, h⟩) | h
  · exact .inl (.inl (s _ _ h))
  · exact .inl (.inr ⟨o, s _ _ h⟩)
  · exact .inr h
theorem SqT.same {K : PySem.W.Frag} {H H' : Hp} {a : Addr} {xs : List V} (h : SqT K H a xs) (s : Same H H') : SqT K H' a xs := by
  rcases h with (h | ⟨o, h⟩) | h
  · exact .inl (.inl (s _ _ h))
  · exact .inl (.inr ⟨o, s _ _ h⟩)
  · exact .inr h
theorem SqV.same {K : PySem.W.Frag} {H H' : Hp} {a : Addr} {xs : List V} (h : SqV K H a xs) (s : Same H H') : SqV K H' a xs := h.imp (·.same s) (·.same s)
/-- no text, whatever is made besides -/
def NoTx (K : PySem.W.Frag) (H : Hp) (x : V) : Prop := ∀ H', Same H H' → ∃ t, TyX K H' x t ∧ PySem.W.kitOne K t (.type "str") = some false
/-- no list and no tuple -/
def NoSq (K : PySem.W.Frag) (H : Hp) (x : V) : Prop := ∀ H', Same H H' → ∃ t, TyX K H' x t ∧ PySem.W.kitOne K t (.type "list") = some false ∧ PySem.W.kitOne K t (.type "tuple") = some false
theorem NoTx.same {K : PySem.W.Frag} {H H' : Hp} {x : V} (h : NoTx K H x) (s : Same H H') : NoTx K H' x := fun H2 s2 => h H2 (s.trans s2)
theorem NoSq.same {K : PySem.W.Frag} {H H' : Hp} {x : V} (h : NoSq K H x) (s : Same H H') : NoSq K H' x := fun H2 s2 => h H2 (s.trans s2)
/-- each is a text, or no text -/
def Told (K : PySem.W.Frag) (H : Hp) (xs : List V) : Prop := ∀ x ∈ xs, (∃ z : Str, x = .str z ∧ z.length ≤ 1000 ∧ PyData.canLay0 (.str z) = true) ∨ NoTx K H x
theorem Told.same {K : PySem.W.Frag} {H H' : Hp} {xs : List V} (h : Told K H xs) (s : Same H H') : Told K H' xs := fun x hx => (h x hx).imp id (·.same s)
/-- the texts, if all are -/
def txs? : List V → Option (List Str)
  | [] => some []
  | .str z :: l => (txs? l).map (z :: ·)
  | _ :: _ => none
theorem txs_map : ∀ ws : List Str, txs? (ws.map V.str) = some ws
  | [] => rfl
  | w :: ws => by
    show (txs? (ws.map V.str)).map (w :: ·) = _
    rw [txs_map ws]
    rfl
theorem txs_some : ∀ {xs : List V} {ws : List Str}, txs? xs = some ws → xs = ws.map V.str
  | [], ws, h => by cases h; rfl
  | .str z :: l, ws, h => by
    have h : (txs? l).map (z :: ·) = some ws := h
    obtain ⟨u, hu, rfl⟩ := Option.map_eq_some_iff.mp h
    rw [txs_some hu]
    rfl
  | .non :: _, _, h => by cases h
  | .bl _ :: _, _, h => by cases h
  | .int _ :: _, _, h => by cases h
  | .ref _ :: _, _, h => by cases h
  | .ty _ :: _, _, h => by cases h
  | .byt _ :: _, _, h => by cases h
  | .flt _ :: _, _, h => by cases h
/-- a comprehension over a list or a tuple that stays: what is told of it besides may change -/
theorem lc_sqv {K : PySem.W.Frag} {a : Addr} {xs : List V} {g : TG} {tt : TT} {te : TE} {vs : List Nat} {σ : St} {H : Hp} {Q : VK} {j : Nat} (hj : σ[j]? = some (some (.ref a))) (hv : SqV K H a xs) (Pv : Addr → Nat → Hp → Prop) (hk : ∀ D i G, Pv D i G → Same H G)
    (h0 : ∀ D, H D = none → Pv D 0 (upd H D (.lst [])))
    (hs : ∀ D i x G, H D = none → xs[i]? = some x → Pv D i G → g x (wipe σ vs) G fun σ2 H2 => wipe σ2 vs = wipe σ vs ∧ tt σ2 H2 fun b H3 =>
      if b = true then te σ2 H3 fun y H4 => ∃ acc, H4 D = some (.lst acc) ∧ acc.length < sizeLine ∧ Pv D (i + 1) (upd H4 D (.lst (acc ++ [y]))) else Pv D (i + 1) H3) (hd : ∀ D G, Pv D xs.length G → Q (.ref D) G) :
    tLc (iOr (iList K (tVar j)) (iTup K (tVar j))) g tt te vs σ H Q := by
  rcases hv with hv | hv
  · exact .inl ⟨_, hj, a, rfl, ⟨_, hv⟩, fun D nD => lc_list (K := K) (xs := xs) (Pv D) (h0 D nD) (fun i G _ p => SqL.same hv (hk D i G p)) (fun i x G hx p => hs D i x G nD hx p) (hd D)⟩
  · exact .inr ⟨_, hj, a, rfl, ⟨_, hv⟩, fun D nD => lc_tup (K := K) (xs := xs) (Pv D) (h0 D nD) (fun i G _ p => SqT.same hv (hk D i G p)) (fun i x G hx p => hs D i x G nD hx p) (hd D)⟩
theorem rd_notall {wi : TI} {g : TG} {tt : TT} {te : TE} {vs : List Nat} {σ : St} {H : Hp} {r : List V → Hp → VK → Prop} {Q : Bool → Hp → Prop} (h : tLc wi g tt te vs σ H fun x H1 => r [x] H1 fun v H2 => ∃ k, v = .bl k ∧ Q (!k) H2) :
    tNot (tB (tCB r (tCons (tLc wi g tt te vs) tNil))) σ H Q := h
theorem rd_call1 {wi : TI} {g : TG} {tt : TT} {te : TE} {vs : List Nat} {σ : St} {H : Hp} {r : List V → Hp → VK → Prop} {Q : VK} (h : tLc wi g tt te vs σ H fun x H1 => r [x] H1 Q) : tCB r (tCons (tLc wi g tt te vs) tNil) σ H Q := h
theorem rd_seq {t u : TS} {D : Ends} {σ : St} {H : Hp} (h : t { D with nx := u D } σ H) : tSeq t u D σ H := h
theorem rd_if {c : TT} {t u : TS} {D : Ends} {σ : St} {H : Hp} (h : c σ H fun b H1 => if b = true then t D σ H1 else u D σ H1) : tIfS c t u D σ H := h
theorem rd_ret {t : TE} {D : Ends} {σ : St} {H : Hp} (h : t σ H D.rt) : tRet t D σ H := h
theorem rd_asg {t : TE} {g : TG} {D : Ends} {σ : St} {H : Hp} (h : t σ H fun x H1 => g x σ H1 D.nx) : tAsg t g D σ H := h
/-- tuple(x), x a list or a tuple -/
def rTupS (K : PySem.W.Frag) : List V → Hp → VK → Prop := fun xs H Q => ∃ (a : Addr) (ys : List V), xs = [.ref a] ∧ SqV K H a ys ∧ ∀ (t : Addr) (G : Hp), Same H G → SqT K G t ys → Q (.ref t) G
theorem call_tupS {X : Cx} : CallR X (.type "tuple") (rTupS X.K) := by
  intro pins s σ H xs us Q I r h
  obtain ⟨a, ys, rfl, hv, k⟩ := h
  refine call_tuple_of pins s σ H _ us Q I r ⟨a, ys, rfl, ?_⟩
  rcases hv with hv | hv
  · exact .inl ⟨hv, fun l nl => k l _ (fun b o e => by rw [upd_ne (ne_of_none e nl)]; exact e) (SqT.of upd_same)⟩
  · exact .inr ⟨hv, k a H (fun _ _ e => e) hv⟩
/-- all but what is at a -/
theorem SqL.off {K : PySem.W.Frag} {H H' : Hp} {a b : Addr} {xs : List V} (h : SqL K H b xs) (n : ∀ o ys, H a ≠ some (.frz o (.lst ys)) ∧ H a ≠ some (.lst ys)) (e : ∀ c u, c ≠ a → H c = some u → H' c = some u) : SqL K H' b xs := by
  rcases h with (h | ⟨o, h⟩) | h
  · exact .inl (.inl (e _ _ (fun z => (n default xs).2 (z ▸ h)) h))
  · exact .inl (.inr ⟨o, e _ _ (fun z => (n o xs).1 (z ▸ h)) h⟩)
  · exact .inr h
theorem SqT.off {K : PySem.W.Frag} {H H' : Hp} {a b : Addr} {xs : List V} (h : SqT K H b xs) (n : ∀ o ys, H a ≠ some (.frz o (.tup ys)) ∧ H a ≠ some (.tup ys)) (e : ∀ c u, c ≠ a → H c = some u → H' c = some u) : SqT K H' b xs := by
  rcases h with (h | ⟨o, h⟩) | h
  · exact .inl (.inl (e _ _ (fun z => (n default xs).2 (z ▸ h)) h))
  · exact .inl (.inr ⟨o, e _ _ (fun z => (n o xs).1 (z ▸ h)) h⟩)
  · exact .inr h
/-- an own instance's fields are stored: sequences stand -/
theorem SqV.ins {K : PySem.W.Frag} {H H' : Hp} {a b C dx : Addr} {fs : List (Str × V)} {xs : List V} (h : SqV K H b xs) (ha : H a = some (.ins C dx fs)) (e : ∀ c u, c ≠ a → H c = some u → H' c = some u) : SqV K H' b xs :=
  h.imp (fun h => h.off (fun o ys => ⟨(fun z => by rw [ha] at z; cases z), (fun z => by rw [ha] at z; cases z)⟩) e) (fun h => h.off (fun o ys => ⟨(fun z => by rw [ha] at z; cases z), (fun z => by rw [ha] at z; cases z)⟩) e)
theorem SqT.ins {K : PySem.W.Frag} {H H' : Hp} {a b C dx : Addr} {fs : List (Str × V)} {xs : List V} (h : SqT K H b xs) (ha : H a = some (.ins C dx fs)) (e : ∀ c u, c ≠ a → H c = some u → H' c = some u) : SqT K H' b xs :=
  h.off (fun o ys => ⟨(fun z => by rw [ha] at z; cases z), (fun z => by rw [ha] at z; cases z)⟩) e
end L2

set_option maxRecDepth 100000
set_option maxHeartbeats 4000000
/-! list(s) of a text: its signs; the joining of signs. -/
namespace L2
open PySem PySem.Spec PyProof.Rows TL
/-- the sign of a code -/
abbrev sgn (c : Nat) : Str := ⟨#[c]⟩
/-- the signs of a text -/
def sgns (x : Str) : List Str := x.cps.toList.map sgn
theorem sgns_len (x : Str) : (sgns x).length = x.length := by
  unfold sgns
  rw [List.length_map, Array.length_toList]
  rfl
theorem vals_at : ∀ {xs : List V} {us : List Value}, us.length = xs.length → (∀ (j : Nat) (u : Value), us[j]? = some u → ∃ y, xs[j]? = some y ∧ RelV y u) → Vals xs us
  | [], [], _, _ => .nil
  | [], _ :: _, h, _ => by simp at h
  | _ :: _, [], h, _ => by simp at h
  | x :: xs, u :: us, h, k => by
    obtain ⟨y, e, r⟩ := k 0 u rfl
    obtain rfl : x = y := Option.some.inj e
    exact .cons r (vals_at (Nat.succ.inj h) fun j v hj => k (j + 1) v hj)
def rListTx : List V → Hp → VK → Prop := fun xs H Q => ∃ z : Str, xs = [.str z] ∧ z.length ≤ 1000 ∧ ∀ l, H l = none → Q (.ref l) (upd H l (.lst ((sgns z).map V.str)))
theorem call_list_tx {X : Cx} (hc : X.calm = true) : CallR X (.type "list") rListTx := by
  intro pins s σ H xs us Q I r h
  obtain ⟨z, rfl, few, k⟩ := h
  obtain ⟨u, rfl, t, rfl⟩ := vals1 r
  have big : 1000 < sizeLine := by decide
  have few2 : z.cps.size ≤ 1000 := few
  refine call_list_str (I.ok.hd hc) z t (fun h' tk acc c kept new items => ?_) (by omega)
  obtain ⟨n, each⟩ := items
  refine ⟨.ref s.heap.objs.size, _, I.laid (t' := tk) kept (Nat.le_refl _) ?_, rfl, k _ (I.hok.fresh (Nat.le_refl _))⟩
  have ls : acc.toList.length = ((sgns z).map V.str).length := by
    rw [List.length_map, sgns_len, Array.length_toList, n]
    rfl
  refine ⟨by rw [List.length_map, sgns_len]; omega, acc.toList, c, vals_at ls fun j v hj => ?_, by simpa using new⟩
  obtain ⟨cd, tk2, e1, rfl⟩ := each j v (by rw [← Array.getElem?_toList]; exact hj)
  refine ⟨.str (sgn cd), ?_, tk2, rfl⟩
  unfold sgns
  rw [List.map_map, List.getElem?_map, Array.getElem?_toList, e1]
  rfl
theorem tl_join_sgns (cs : List Nat) : (Txt.join (Str.ofString "") (cs.map sgn)).cps.toList = cs := by
  rw [join_eq]
  show tl (Str.join (Str.ofString "") (cs.map sgn)) = cs
  rw [tl_join]
  have e : ∀ cs : List Nat, joinL (tl (Str.ofString "")) ((cs.map sgn).map tl) = cs := fun cs => by
    induction cs with
    | nil => rfl
    | cons c cs ih =>
      cases cs with
      | nil => rfl
      | cons d cs =>
        show [c] ++ ([] ++ joinL (tl (Str.ofString "")) (((d :: cs).map sgn).map tl)) = _
        rw [ih]
        rfl
  exact e cs
end L2

set_option maxRecDepth 100000
set_option maxHeartbeats 4000000
namespace K01
open PySem PySem.Spec PyProof.Rows L2 He VH
/-! names, words, lists of them -/
abbrev sWrd : Stmt := top 4
abbrev sWds : Stmt := top 5
abbrev FnWrd (K : PySem.W.Frag) (fd : FuncData) : Prop := FnP K "is_word" sWrd (ga K "is_word") fd
abbrev FnWds (K : PySem.W.Frag) (fd : FuncData) : Prop := FnP K "are_words" sWds (ga K "are_words") fd
theorem bWrd {K : PySem.W.Frag} {fd : FuncData} (F : FnWrd K fd) : Binds K fd ["value", "words"] [] := FunD.bindsN F fun _ _ _ _ _ _ us hl => match us, hl with | [_, _], _ => rfl
theorem bWds {K : PySem.W.Frag} {fd : FuncData} (F : FnWds K fd) : Binds K fd ["values", "words"] [] := FunD.bindsN F fun _ _ _ _ _ _ us hl => match us, hl with | [_, _], _ => rfl
theorem inV_strs {z : Str} {ws : List Str} : inV (.str z) (ws.map V.str) = ws.contains z := by
  induction ws with
  | nil => rfl
  | cons w ws ih =>
    rw [List.map_cons, List.contains_cons]
    show (eqV (.str w) (.str z) || inV (.str z) (ws.map V.str)) = _
    rw [ih]
    congr 1
    show decide (w = z) = (z == w)
    by_cases h : w = z
    · subst h
      simp
    · rw [decide_eq_false h]
      exact (beq_eq_false_iff_ne.mpr fun e => h e.symm).symm
theorem flat_strs {ws : List Str} : (ws.map V.str).all flatV = true := by
  rw [List.all_map]
  exact List.all_eq_true.mpr fun _ _ => rfl
theorem same_put {H G : Hp} {D : Addr} {u : HO} (s : Same H G) (n : H D = none) : Same H (upd G D u) := fun b o e => by
  rw [upd_ne (ne_of_none e n)]
  exact s b o e
def spWrd (K : PySem.W.Frag) : Sp := fun vs H Q _ => ∃ (x : V) (p : Addr) (ws : List Str), vs = [x, .ref p] ∧ SqT K H p (ws.map V.str) ∧
  ((∃ z, x = .str z ∧ Q (.bl (ws.contains z)) H) ∨ (NoTx K H x ∧ Q (.bl false) H))
section
variable {P : Program} {w : World} {K : PySem.W.Frag} {mg : Str → Option Value} {base : Heap} {f : Addr} {fd fdW fdS fdN : FuncData}
theorem scWrd : FnScope ["value", "words"] ["value", "words"] (defScope sWrd) := ⟨rfl, rfl, rfl, by decide +kernel, rfl, by decide +kernel, by decide +kernel⟩
theorem ok_wrd (F : FnP K "is_word" sWrd f fd) (T : Txt K mg w) : FnOk P w K mg base CX0 1 f fd ["value", "words"] (spWrd K) := by
  refine F.ok scWrd (fun vs H Q E h => ?_) (fun cdv A outer s H vs Q E hr h => ?_)
  · obtain ⟨x, p, ws, rfl, _⟩ := h
    rfl
  refine ⟨_, PSs.nox (pss_one (ps_ret (pe_and (pe_callB call_isi (by rfl) T.g_isinstance boot_isinstance (pa_cons (pv 0) (pa_cons (pe_bltn (v := .ty "str") (by rfl) T.g_str boot_str rfl) pa_nil))) (pe_one (pe_cmpR op_in_seq (pv 0) (pv 1) (by rfl)))))), ?_⟩
  obtain ⟨x, p, ws, rfl, hp, h⟩ := h
  rcases h with ⟨z, rfl, q⟩ | ⟨no, q⟩
  · refine ⟨_, rfl, _, _, _, _, true, rfl, .ty "str", .base (.str z), kit_ty (by decide +kernel), true, rfl, iteT ?_⟩
    refine ⟨_, rfl, _, rfl, p, _, rfl, .inr hp, rfl, flat_strs, ?_⟩
    rw [inV_strs]
    exact q
  · obtain ⟨t, ty, k⟩ := no H (Same.refl H)
    exact ⟨_, rfl, _, _, _, _, false, rfl, .ty "str", ty, k, false, rfl, iteF q⟩
end
end K01

set_option maxRecDepth 100000
set_option maxHeartbeats 4000000
namespace K01
open PySem PySem.Spec PyProof.Rows L2 He VH
/-! lists of words -/
theorem dpS {K : PySem.W.Frag} {H : Hp} : ∀ ws : List Str, DpAll K H (ws.map V.str) (ws.map PyData.str)
  | [] => .nil
  | w :: ws => .cons (.str w) (dpS ws)
theorem eqvS : ∀ as bs : List Str, PyData.eqvAll (as.map PyData.str) (bs.map PyData.str) = decide (as = bs)
  | [], [] => rfl
  | [], _ :: _ => rfl
  | _ :: _, [] => rfl
  | a :: as, b :: bs => by
    show (PyData.eqv (.str a) (.str b) && PyData.eqvAll (as.map PyData.str) (bs.map PyData.str)) = _
    rw [eqvS as bs]
    show ((a == b) && decide (as = bs)) = _
    by_cases h : a = b
    · subst h
      by_cases h2 : as = bs <;> simp [h2]
    · simp [h]
theorem shpAll : ∀ ws : List Str, (∀ z ∈ ws, PyData.canLay0 (.str z) = true) → PyData.canLayAll0 (ws.map PyData.str) = true ∧ PyData.depthAll (ws.map PyData.str) = 0
  | [], _ => ⟨rfl, rfl⟩
  | w :: ws, h => by
    obtain ⟨h1, h2⟩ := shpAll ws fun z hz => h z (List.mem_cons_of_mem _ hz)
    refine ⟨?_, ?_⟩
    · show (PyData.canLay0 (.str w) && PyData.canLayAll0 (ws.map PyData.str)) = true
      rw [h1, h w (List.mem_cons_self ..)]
      rfl
    · show max (PyData.depth (.str w)) (PyData.depthAll (ws.map PyData.str)) = 0
      rw [h2]
      rfl
theorem shpL {ws : List Str} (h : ∀ z ∈ ws, PyData.canLay0 (.str z) = true) : SeqAt.shaped (.list (ws.map PyData.str)) = true := by
  have z := shpAll ws h
  unfold SeqAt.shaped PyData.canLay0 PyData.depth
  rw [z.1, z.2]
  rfl
/-- whether these words stand among those, in their order -/
def wdsOk (cs ws : List Str) : Bool := cs.all ws.contains && decide (cs = ws.filter cs.contains)
def wdsB (xs : List V) (ws : List Str) : Bool := match txs? xs with
  | some cs => wdsOk cs ws
  | none => false
def itW (ws : List Str) : V → Bool
  | .str z => ws.contains z
  | _ => false
theorem all_itW {ws : List Str} : ∀ {xs : List V}, xs.all (itW ws) = true → ∃ cs, txs? xs = some cs ∧ cs.all ws.contains = true
  | [], _ => ⟨[], rfl, rfl⟩
  | x :: l, h => by
    rw [List.all_cons, Bool.and_eq_true] at h
    obtain ⟨cs, e, a⟩ := all_itW h.2
    cases x with
    | str z => exact ⟨z :: cs, by show (txs? l).map (z :: ·) = _; rw [e]; rfl, by rw [List.all_cons, a, Bool.and_true]; exact h.1⟩
    | _ => exact absurd h.1 (by simp [itW])
theorem itW_map {ws cs : List Str} : (cs.map V.str).all (itW ws) = cs.all ws.contains := by rw [List.all_map]; rfl
theorem wdsB_no {xs : List V} {ws : List Str} (h : xs.all (itW ws) = false) : wdsB xs ws = false := by
  unfold wdsB
  split
  · rename_i cs e
    rw [txs_some e, itW_map] at h
    unfold wdsOk
    rw [h]
    rfl
  · rfl
def spWds (K : PySem.W.Frag) : Sp := fun vs H Q _ => ∃ (a p : Addr) (xs : List V) (ws : List Str), vs = [.ref a, .ref p] ∧ SqV K H a xs ∧ Told K H xs ∧ xs.length ≤ 1000 ∧ (∀ H, SqT K H p (ws.map V.str)) ∧ ws.length ≤ 1000 ∧
  (∀ z ∈ ws, PyData.canLay0 (.str z) = true) ∧ ∀ H', Same H H' → Q (.bl (wdsB xs ws)) H'
section
variable {P : Program} {w : World} {K : PySem.W.Frag} {mg : Str → Option Value} {base : Heap} {f : Addr} {fd fdW : FuncData}
abbrev nWds : List Str := ["values", "words", "value", "word"]
theorem scWds : FnScope nWds ["values", "words"] (defScope sWds) := ⟨rfl, rfl, rfl, by decide +kernel, rfl, by decide +kernel, by decide +kernel⟩
theorem notx_str {K : PySem.W.Frag} {H : Hp} {z : Str} (no : NoTx K H (.str z)) : False := by
  obtain ⟨t, ty, kk⟩ := no H (Same.refl H)
  cases ty with
  | base b =>
    cases b
    rw [kit_ty (K := K) (r := true) (by decide +kernel)] at kk
    cases kk
theorem ok_wds (F : FnP K "are_words" sWds f fd) (T : Txt K mg w) (FW : FnWrd K fdW) : FnOk P w K mg base CX0 2 f fd ["values", "words"] (spWds K) := by
  have GW : FnOk P w K mg base CX0 1 (ga K "is_word") fdW ["value", "words"] (spWrd K) := ok_wrd FW T
  refine F.ok scWds (fun vs H Q E h => ?_) (fun cdv A outer s H vs Q E hr h => ?_)
  · obtain ⟨_, _, _, _, rfl, _⟩ := h
    rfl
  refine ⟨_, PSs.nox (pss_cons (ps_if (pt_not (pt_val (pe_callB (cr_all rfl) (by rfl) T.g_all boot_all (pa_cons (pe_lc (own := [("value", 2)]) (g := gName 2) (tt := tYes) rfl scWds.nd (pi_or (pi_list (pv 0)) (pi_tup (pv 0))) (blkOk_by (N := nWds) (sc := defScope sWds) (by decide +kernel))
        (fun _ _ _ _ _ => pg_name (i := 2) scWds.nd rfl (Or.inl rfl)) (fun _ _ _ _ _ => pts_nil) (fun _ _ _ _ _ => pe_call GW hr (by rfl) T.m_is_word FW.kp (bWrd FW) .nil pass0 (pa_cons (pv 2) (pa_cons (pv 1) pa_nil)))) pa_nil)))) (pss_one (ps_ret pe_bl)) pss_nil)
    (pss_one (ps_ret (pe_cmpR (op_eqD hr.units) (pe_callTy call_list_of (by rfl) T.g_list boot_list (pa_cons (pv 0) pa_nil))
      (pe_lc (own := [("word", 3)]) (g := gName 3) (tt := tTest (tOp (rIn K false) (tVar 3) (tVar 0))) (te := tVar 3) rfl scWds.nd (pi_tup (pv 1)) (blkOk_by (N := nWds) (sc := defScope sWds) (by decide +kernel))
        (fun _ _ _ _ _ => pg_name (i := 3) scWds.nd rfl (Or.inl rfl)) (fun _ _ _ _ _ => pts_one (pt_cmpR op_in_seq (pv 3) (pv 0) (by rfl))) (fun _ _ _ _ _ => pv 3)) (nomark _))))), ?_⟩
  obtain ⟨a, p, xs, ws, rfl, hv, td, few, hp, lw, lays, k⟩ := h
  have big : 1000 < sizeLine := by decide
  refine rd_seq (rd_if (rd_notall (lc_sqv (j := 0) (xs := xs) (by rfl) hv (fun D i G => Same H G ∧ G D = some (.lst (((xs.take i).map (itW ws)).map V.bl))) (fun D i G p => p.1) (fun D nD => ⟨Same.new nD, upd_same⟩) (fun D i x G nD hx p => ?_) (fun D G p => ?_))))
  · obtain ⟨sG, hD⟩ := p
    have li := (List.getElem?_eq_some_iff.mp hx).1
    have fin : ∀ b : Bool, b = itW ws x → ∃ acc, G D = some (.lst acc) ∧ acc.length < sizeLine ∧ Same H (upd G D (.lst (acc ++ [.bl b]))) ∧ upd G D (.lst (acc ++ [.bl b])) D = some (.lst (((xs.take (i + 1)).map (itW ws)).map V.bl)) := fun b e => by
      refine ⟨_, hD, ?_, same_put sG nD, ?_⟩
      · rw [List.length_map, List.length_map, List.length_take]
        omega
      · rw [upd_same, List.take_succ, hx, e]
        simp
    refine ⟨rfl, _, rfl, _, rfl, x, _, ws, rfl, hp _, ?_⟩
    rcases td x (List.mem_of_getElem? hx) with ⟨z, rfl, lz, _⟩ | no
    · exact .inl ⟨z, rfl, fin _ rfl⟩
    · refine .inr ⟨no.same sG, fin _ ?_⟩
      cases x with
      | str z => exact (notx_str no).elim
      | _ => rfl
  · obtain ⟨sG, hD⟩ := p
    rw [List.take_length] at hD
    refine ⟨D, _, rfl, SqL.of hD, ?_⟩
    rw [List.all_map]
    show ∃ c, V.bl (xs.all (itW ws)) = .bl c ∧ _
    refine ⟨_, rfl, ?_⟩
    cases ha : xs.all (itW ws) with
    | false =>
      have := k G sG
      rw [wdsB_no ha] at this
      exact iteT this
    | true =>
      obtain ⟨cs, ec, ac⟩ := all_itW ha
      obtain rfl := txs_some ec
      have hv2 : SqV K G a (cs.map V.str) := hv.same sG
      have lc : cs.length ≤ 1000 := by rw [List.length_map] at few; exact few
      have k := fun H' S => k H' S
      have ek : wdsB (cs.map V.str) ws = decide (cs = ws.filter cs.contains) := by
        unfold wdsB wdsOk
        rw [ec]
        show (cs.all ws.contains && _) = _
        rw [ac, Bool.true_and]
      rw [ek] at k
      refine iteF ⟨_, rfl, a, _, rfl, hv2, fun l nl => ?_⟩
      have sL := sG.trans (Same.new (o := .lst (cs.map V.str)) nl)
      have hl : upd G l (.lst (cs.map V.str)) l = some (.lst (cs.map V.str)) := upd_same
      generalize upd G l (.lst (cs.map V.str)) = G1 at sL hl ⊢
      refine ⟨_, rfl, p, rfl, ⟨_, hp _⟩, fun D2 hD2 => ?_⟩
      refine lc_tup (K := K) (xs := ws.map V.str) (fun i G2 => Same G1 G2 ∧ G2 D2 = some (.lst (((ws.take i).filter cs.contains).map V.str))) ⟨Same.new hD2, upd_same⟩ (fun i G2 _ g => hp _) (fun i x G2 hx g => ?_) (fun G2 g => ?_)
      · obtain ⟨s2, h2⟩ := g
        rw [List.getElem?_map] at hx
        obtain ⟨c, hc, rfl⟩ := Option.map_eq_some_iff.mp hx
        have lt := (List.getElem?_eq_some_iff.mp hc).1
        refine ⟨rfl, _, rfl, _, rfl, a, _, rfl, (hv.same sL).same s2, rfl, flat_strs, _, rfl, ?_⟩
        rw [inV_strs]
        cases hin : cs.contains c with
        | true =>
          refine iteT ⟨_, rfl, _, h2, ?_, same_put s2 hD2, ?_⟩
          · rw [List.length_map]
            have := List.length_filter_le cs.contains (ws.take i)
            rw [List.length_take] at this
            omega
          · rw [upd_same, List.take_succ, hc]
            simp only [Option.toList, List.filter_append, List.filter_cons, hin, if_true, List.filter_nil, List.map_append]
            rfl
        | false =>
          refine iteF ⟨s2, ?_⟩
          rw [h2, List.take_succ, hc]
          simp only [Option.toList, List.filter_append, List.filter_cons, hin, Bool.false_eq_true, if_false, List.filter_nil, List.append_nil]
      · obtain ⟨s2, h2⟩ := g
        rw [List.length_map, List.take_length] at h2
        have lay1 : ∀ z ∈ cs, PyData.canLay0 (.str z) = true := fun z hz => lays z (List.contains_iff_mem.mp (List.all_eq_true.mp ac z hz))
        have lay2 : ∀ z ∈ ws.filter cs.contains, PyData.canLay0 (.str z) = true := fun z hz => lays z (List.mem_filter.mp hz).1
        refine ⟨_, _, .lst (SqL.of (s2 _ _ hl)) (dpS cs), .lst (SqL.of h2) (dpS _), shpL lay1, shpL lay2, ?_⟩
        show Q (.bl (PyData.eqvAll (cs.map PyData.str) ((ws.filter cs.contains).map PyData.str))) G2
        rw [eqvS]
        exact k G2 (sL.trans s2)
end
end K01

set_option maxRecDepth 100000
set_option maxHeartbeats 4000000
/-! == of a dict and a text or a tuple: never so. -/
namespace L2
open PySem PySem.Spec PyProof.Rows SeqAt
section
variable {M : Model} {prog : Program} {w : World} {A : Around} {s : Shared} {E : Value → Shared → Prop}
theorem call_dict_eq_no {d : Addr} {y : Value} {T : String} (hd : s.TypeIs (.ref d) "dict") (hy : s.TypeIs y T) (hs : isSubtype (.type T) (.type "dict") = pure false) {Q : Value → Shared → Prop} (h : Q .notImplemented s) :
    wpAny (model prog w) A (call (.builtin "dict.__eq__") [.ref d, y]) Q E s := by
  refine wpAny_call_entry PySem.F.slot_dict_eq hd PySem.F.entry_dict_eq ?_ (PySem.F.args_dict_eq_2 _ _)
  show wpAny _ _ (Builtin.Dict.dictSlotArgs "__eq__" ⟨[.ref d, y], []⟩ >>= _) _ _ s
  refine wpAny_bind ?_
  unfold Builtin.Dict.dictSlotArgs
  refine wpAny_bind (wpAny_notOrdered_dict hd ?_)
  show wpAny _ _ (pure (Value.ref d, y)) _ _ s
  refine wpAny_pure ?_
  refine wpAny_bind (wpAny_isInstance hy hs ?_)
  simp only [Bool.not_false, if_true]
  refine wpAny_bind (wpAny_rule ?_)
  exact wpAny_pure ⟨_, rfl, h⟩
theorem call_dict_eq_refl_no {d : Addr} {y : Value} {T : String} (hd : s.TypeIs (.ref d) "dict") (hy : s.TypeIs y T) (hs : isSubtype (.type T) (.type "dict") = pure false) {Q : Value → Shared → Prop} (h : Q .notImplemented s) :
    wpAny (model prog w) A (call (.builtin "dict.__eq__") [.ref d, y]) Q E s := call_dict_eq_no hd hy hs h
end
end L2
namespace L2
open PySem PySem.Spec PyProof.Rows SeqAt MeetsSeq
open AutoSeq1 (wpAny_loadPart')
theorem str_eq_declines_dict (b : Str) (u : Tok) (l : Addr) (c : Value) (es : Array DictEntry) (ep : Nat) (dd : Option Addr) (sl : Array (Option Value)) :
    Meets (Builtin.«str.__eq__» ⟨[.str b u, .ref l], []⟩) (fun _ R s => s.heap.get? l = some { cls := c, dict := dd, data := .dict es ep, slots := sl } ∧ R (.ok (.ret .notImplemented)) s) :=
  .of_wp fun prog w A R s h => by obtain ⟨hp, g, d, tk, os⟩ := s; obtain ⟨hl, h⟩ := h; wp_walk using wpAny_loadPart' hl, wpAny_load hl; exact ⟨_, rfl, h⟩
theorem tuple_eq_declines_dict (l b : Addr) (items : Array Value) (n : Nat) (es : Array DictEntry) (ep : Nat) (dd dd2 : Option Addr) (sl sl2 : Array (Option Value)) :
    Meets (Builtin.«tuple.__eq__» ⟨[.ref l, .ref b], []⟩) (fun _ R s => s.heap.get? l = some { cls := .type "tuple", dict := dd, data := .seq items n, slots := sl } ∧ s.heap.get? b = some { cls := .type "dict", dict := dd2, data := .dict es ep, slots := sl2 } ∧ R (.ok (.ret .notImplemented)) s) :=
  .of_wp fun prog w A R s h => by obtain ⟨hp, g, d, tk, os⟩ := s; obtain ⟨hl, hb, h⟩ := h; have f1 := F.sub_dict_tuple; wp_walk using wpAny_loadPart' hl, wpAny_loadPart' hb; exact ⟨_, rfl, h⟩
section
variable {A : Around} {s : Shared}
/-- a dict of the model's -/
def IsDct (s : Shared) (d : Addr) : Prop := ∃ (es : Array DictEntry) (ep : Nat) (dd : Option Addr) (sl : Array (Option Value)), s.heap.get? d = some { cls := .type "dict", dict := dd, data := .dict es ep, slots := sl }
theorem IsDct.ty {d : Addr} (h : IsDct s d) : s.TypeIs (.ref d) "dict" := let ⟨_, _, _, _, e⟩ := h; ⟨_, e, rfl⟩
theorem RcAt.str_dict {d : Addr} (b : Str) (u : Tok) (hl : IsDct s d) (hu : A.units < cLine) : RcAt A s (.str b u) (.ref d) false := fun prog w E Q h => by
  have ty := hl.ty
  obtain ⟨es, ep, dd, sl, ho⟩ := hl
  exact rc_eq_decline_or (k := false) rfl ty (by decide) F.sub_dict_str F.slot_str_eq F.slot_dict_eq_refl
    (fun _ hq => call_meets F.slot_str_eq rfl F.entry_str_eq (F.args_str_eq_2 _ _) (str_eq_declines_dict b u d _ es ep dd sl) ⟨ho, hq⟩)
    (fun _ hq => call_dict_eq_no ty (y := .str b u) (T := "str") rfl F.sub_str_dict hq)
    (fun _ hq => wpAny_of_eq (rfl : isSame (.str b u) (.ref d) = pure false) hq) (.inr hu) h
theorem RcAt.dict_str {d : Addr} (b : Str) (u : Tok) (hl : IsDct s d) (hu : A.units < cLine) : RcAt A s (.ref d) (.str b u) false := fun prog w E Q h => by
  have ty := hl.ty
  obtain ⟨es, ep, dd, sl, ho⟩ := hl
  exact rc_eq_decline_or (k := false) ty rfl (by decide) F.sub_str_dict F.slot_dict_eq F.slot_str_eq_refl
    (fun _ hq => call_dict_eq_no ty (y := .str b u) (T := "str") rfl F.sub_str_dict hq)
    (fun _ hq => call_meets F.slot_str_eq_refl rfl F.entry_str_eq (F.args_str_eq_2 _ _) (str_eq_declines_dict b u d _ es ep dd sl) ⟨ho, hq⟩)
    (fun _ hq => wpAny_of_eq (rfl : isSame (.ref d) (.str b u) = pure false) hq) (.inr hu) h
theorem EqAt.str_dict {d : Addr} (b : Str) (u : Tok) (hl : IsDct s d) (hu : A.units < cLine) : EqAt A s (.str b u) (.ref d) false := fun prog w E Q h => by
  unfold eqBool
  refine wpAny_holding ?_
  refine wpAny_ite_split (fun hab => absurd (eq_of_beq hab) nofun) (fun _ => ?_)
  exact wpAny_bind (RcAt.str_dict b u hl hu prog w E _ (wpAny_truthy_bool h))
theorem EqAt.dict_str {d : Addr} (b : Str) (u : Tok) (hl : IsDct s d) (hu : A.units < cLine) : EqAt A s (.ref d) (.str b u) false := fun prog w E Q h => by
  unfold eqBool
  refine wpAny_holding ?_
  refine wpAny_ite_split (fun hab => absurd (eq_of_beq hab) nofun) (fun _ => ?_)
  exact wpAny_bind (RcAt.dict_str b u hl hu prog w E _ (wpAny_truthy_bool h))
theorem ne_of_tuple_dict {l b : Addr} {items : Array Value} (hl : s.heap.IsTuple l items) (hb : IsDct s b) : l ≠ b := fun e => by
  subst e
  obtain ⟨o, ho, hc, _⟩ := hl
  obtain ⟨_, _, _, _, ho2⟩ := hb
  rw [ho] at ho2
  cases ho2
  exact absurd hc (by simp)
theorem RcAt.tuple_dict {l b : Addr} {items : Array Value} (hl : s.heap.IsTuple l items) (hb : IsDct s b) (hu : A.units < cLine) : RcAt A s (.ref l) (.ref b) false := fun prog w E Q h => by
  have hne := ne_of_tuple_dict hl hb
  have ty := hb.ty
  obtain ⟨⟨cls, dd, data, sl⟩, ho, hc, n, hd⟩ := id hl
  obtain ⟨es, ep, dd2, sl2, ho2⟩ := hb
  simp only at hc hd
  subst hc hd
  exact (rc_eq_decline_or (k := false) ⟨_, ho, rfl⟩ ty (by decide) F.sub_dict_tuple F.slot_tuple_eq F.slot_dict_eq_refl
    (fun _ hq => call_meets F.slot_tuple_eq ⟨_, ho, rfl⟩ F.entry_tuple_eq (F.args_tuple_eq_2 _ _) (tuple_eq_declines_dict l b items n es ep dd dd2 sl sl2) ⟨ho, ho2, hq⟩)
    (fun _ hq => call_dict_eq_no ty (y := .ref l) (T := "tuple") ⟨_, ho, rfl⟩ F.sub_tuple_dict hq)
    (fun _ hq => wpAny_isSame_ref_other' hne ho ho2 (by simp) hq) (.inr hu) h)
theorem EqAt.tuple_dict {l b : Addr} {items : Array Value} (hl : s.heap.IsTuple l items) (hb : IsDct s b) (hu : A.units < cLine) : EqAt A s (.ref l) (.ref b) false := .of_refs (ne_of_tuple_dict hl hb) (RcAt.tuple_dict hl hb hu)
end
end L2

set_option maxRecDepth 100000
set_option maxHeartbeats 4000000
/-! == and in, over things of any kind: a tree for each thing; dicts and their like are a leaf. -/
namespace L2
open PySem PySem.Spec PyProof.Rows SeqAt
inductive Tr where
  | non
  | bl (b : Bool)
  | int (i : Int)
  | str (z : Str)
  | dct
  | tup (ts : List Tr)
  | lst (ts : List Tr)
namespace Tr
mutual
/-- what == tells, where a rule speaks of it -/
def eq : Tr → Tr → Option Bool
  | .non, .non => some true
  | .non, .bl _ => some false
  | .non, .int _ => some false
  | .non, .str _ => some false
  | .non, .tup _ => some false
  | .non, .lst _ => some false
  | .bl a, .bl b => some (a == b)
  | .bl a, .int i => some ((if a then 1 else 0) == i)
  | .bl _, .non => some false
  | .bl _, .str _ => some false
  | .bl _, .tup _ => some false
  | .bl _, .lst _ => some false
  | .int i, .int j => some (i == j)
  | .int i, .bl b => some (i == (if b then 1 else 0))
  | .int _, .non => some false
  | .int _, .str _ => some false
  | .int _, .tup _ => some false
  | .int _, .lst _ => some false
  | .str a, .str b => some (a == b)
  | .str _, .non => some false
  | .str _, .bl _ => some false
  | .str _, .int _ => some false
  | .str _, .tup _ => some false
  | .str _, .lst _ => some false
  | .str _, .dct => some false
  | .dct, .str _ => some false
  | .tup _, .dct => some false
  | .tup _, .non => some false
  | .tup _, .bl _ => some false
  | .tup _, .int _ => some false
  | .tup _, .str _ => some false
  | .tup _, .lst _ => some false
  | .lst _, .non => some false
  | .lst _, .bl _ => some false
  | .lst _, .int _ => some false
  | .lst _, .str _ => some false
  | .lst _, .tup _ => some false
  | .tup xs, .tup ys => eqs xs ys
  | .lst xs, .lst ys => if xs.length = ys.length then eqs xs ys else some false
  | .non, .dct => none
  | .bl _, .dct => none
  | .int _, .dct => none
  | .lst _, .dct => none
  | .dct, .non => none
  | .dct, .bl _ => none
  | .dct, .int _ => none
  | .dct, .tup _ => none
  | .dct, .lst _ => none
  | .dct, .dct => none
def eqs : List Tr → List Tr → Option Bool
  | [], [] => some true
  | [], _ :: _ => some false
  | _ :: _, [] => some false
  | x :: xs, y :: ys => match eq x y, eqs xs ys with
    | some b, some c => some (b && c)
    | _, _ => none
end
mutual
def dep : Tr → Nat
  | .tup ts => deps ts + 1
  | .lst ts => deps ts + 1
  | _ => 0
def deps : List Tr → Nat
  | [] => 0
  | t :: ts => max (dep t) (deps ts)
end
mutual
theorem eq_self : ∀ (t : Tr) (b : Bool), eq t t = some b → b = true
  | .non, b, h => by simpa [eq] using h.symm
  | .bl _, b, h => by simp [eq] at h; exact h
  | .int _, b, h => by simp [eq] at h; exact h
  | .str _, b, h => by simp [eq] at h; exact h
  | .dct, b, h => by simp [eq] at h
  | .tup xs, b, h => eqs_self xs b (by simpa [eq] using h)
  | .lst xs, b, h => eqs_self xs b (by simpa [eq] using h)
theorem eqs_self : ∀ (ts : List Tr) (b : Bool), eqs ts ts = some b → b = true
  | [], b, h => by simpa [eqs] using h.symm
  | t :: ts, b, h => by
    simp only [eqs] at h
    cases e : eq t t with
    | none => rw [e] at h; simp at h
    | some c =>
      rw [e] at h
      cases e2 : eqs ts ts with
      | none => rw [e2] at h; simp at h
      | some d =>
        rw [e2] at h
        have h : (c && d) = b := Option.some.inj h
        rw [← h, eq_self t c e, eqs_self ts d e2]
        rfl
end
end Tr
mutual
inductive At (K : PySem.W.Frag) (H : Hp) : V → Tr → Prop
  | non : At K H .non .non
  | bl {b : Bool} : At K H (.bl b) (.bl b)
  | int {i : Int} : At K H (.int i) (.int i)
  | str {z : Str} : At K H (.str z) (.str z)
  | dct {a : Addr} {kvs : List (Key × V)} (h : H a = some (.dK kvs)) : At K H (.ref a) .dct
  | tup {a : Addr} {xs : List V} {ts : List Tr} (h : SqT K H a xs) (hs : Ats K H xs ts) : At K H (.ref a) (.tup ts)
  | lst {a : Addr} {xs : List V} {ts : List Tr} (h : SqL K H a xs) (hs : Ats K H xs ts) : At K H (.ref a) (.lst ts)
inductive Ats (K : PySem.W.Frag) (H : Hp) : List V → List Tr → Prop
  | nil : Ats K H [] []
  | cons {x : V} {t : Tr} {xs : List V} {ts : List Tr} (h : At K H x t) (hs : Ats K H xs ts) : Ats K H (x :: xs) (t :: ts)
end
theorem Ats.len {K : PySem.W.Frag} {H : Hp} : ∀ {xs : List V} {ts : List Tr}, Ats K H xs ts → xs.length = ts.length
  | [], [], _ => rfl
  | _ :: _, _ :: _, .cons _ h => congrArg Nat.succ h.len
/-- what stands fast in tuples and texts stays -/
theorem sqT_same' {K : PySem.W.Frag} {H H' : Hp} {a : Addr} {xs : List V} (s : Same H H') (h : SqT K H a xs) : SqT K H' a xs := by
  rcases h with (h | ⟨o, h⟩) | h
  · exact .inl (.inl (s _ _ h))
  · exact .inl (.inr ⟨o, s _ _ h⟩)
  · exact .inr h
theorem sqL_same' {K : PySem.W.Frag} {H H' : Hp} {a : Addr} {xs : List V} (s : Same H H') (h : SqL K H a xs) : SqL K H' a xs := by
  rcases h with (h | ⟨o, h⟩) | h
  · exact .inl (.inl (s _ _ h))
  · exact .inl (.inr ⟨o, s _ _ h⟩)
  · exact .inr h
mutual
theorem At.same {K : PySem.W.Frag} {H H' : Hp} (s : Same H H') : ∀ {x : V} {t : Tr}, At K H x t → At K H' x t
  | _, _, .non => .non
  | _, _, .bl => .bl
  | _, _, .int => .int
  | _, _, .str => .str
  | _, _, .dct h => .dct (s _ _ h)
  | _, _, .tup h hs => .tup (sqT_same' s h) (hs.same s)
  | _, _, .lst h hs => .lst (sqL_same' s h) (hs.same s)
theorem Ats.same {K : PySem.W.Frag} {H H' : Hp} (s : Same H H') : ∀ {xs : List V} {ts : List Tr}, Ats K H xs ts → Ats K H' xs ts
  | _, _, .nil => .nil
  | _, _, .cons h hs => .cons (h.same s) (hs.same s)
end
section
variable {X : Cx} {pins : List (Addr × Obj)} {σ : St} {H : Hp} {s : Shared}
theorem Inv.isDct (I : Inv X pins σ H s) {a : Addr} {kvs : List (Key × V)} (h : H a = some (.dK kvs)) : IsDct s a := by
  obtain ⟨_, _, va, _, o, es, ep, ho, hc, hd, _⟩ := (show ObjOk X.prog X.w H s.heap a (.dK kvs) from I.hok a _ h)
  obtain ⟨cls, dd, data, sl⟩ := o
  simp only at hd
  have hc : cls = .type "dict" := hc.1
  subst hc hd
  exact ⟨es, ep, dd, sl, ho⟩
mutual
theorem At.inj (I : Inv X pins σ H s) : ∀ {x : V} {t u : Tr}, At X.K H x t → At X.K H x u → t = u
  | _, _, _, .non, .non => rfl
  | _, _, _, .bl, .bl => rfl
  | _, _, _, .int, .int => rfl
  | _, _, _, .str, .str => rfl
  | _, _, _, .dct _, .dct _ => rfl
  | _, _, _, .dct h, .tup h' _ => by
    obtain ⟨_, _, ⟨o, ho, hc, _⟩, _⟩ := I.tuple h'
    obtain ⟨_, _, _, _, e⟩ := I.isDct h
    rw [e] at ho
    cases ho
    exact absurd hc (by simp)
  | _, _, _, .dct h, .lst h' _ => by
    obtain ⟨_, _, p, _⟩ := I.list h'
    obtain ⟨o, ho, hc, _⟩ := p.isList
    obtain ⟨_, _, _, _, e⟩ := I.isDct h
    rw [e] at ho
    cases ho
    exact absurd hc (by simp)
  | _, _, _, .tup h' _, .dct h => by
    obtain ⟨_, _, ⟨o, ho, hc, _⟩, _⟩ := I.tuple h'
    obtain ⟨_, _, _, _, e⟩ := I.isDct h
    rw [e] at ho
    cases ho
    exact absurd hc (by simp)
  | _, _, _, .lst h' _, .dct h => by
    obtain ⟨_, _, p, _⟩ := I.list h'
    obtain ⟨o, ho, hc, _⟩ := p.isList
    obtain ⟨_, _, _, _, e⟩ := I.isDct h
    rw [e] at ho
    cases ho
    exact absurd hc (by simp)
  | _, _, _, .tup h hs, .tup h' hs' => by
    cases I.tuple_inj h h'
    rw [Ats.inj I hs hs']
  | _, _, _, .lst h hs, .lst h' hs' => by
    cases I.list_inj h h'
    rw [Ats.inj I hs hs']
  | _, _, _, .tup h _, .lst h' _ => by
    obtain ⟨_, _, t, _⟩ := I.tuple h
    obtain ⟨_, _, p, _⟩ := I.list h'
    exact absurd rfl (ne_of_list_tuple p.isList t)
  | _, _, _, .lst h' _, .tup h _ => by
    obtain ⟨_, _, t, _⟩ := I.tuple h
    obtain ⟨_, _, p, _⟩ := I.list h'
    exact absurd rfl (ne_of_list_tuple p.isList t)
theorem Ats.inj (I : Inv X pins σ H s) : ∀ {xs : List V} {ts us : List Tr}, Ats X.K H xs ts → Ats X.K H xs us → ts = us
  | _, _, _, .nil, .nil => rfl
  | _, _, _, .cons h hs, .cons h' hs' => by rw [At.inj I h h', Ats.inj I hs hs']
end

mutual
theorem eqAt_T (I : Inv X pins σ H s) : ∀ (t u : Tr) (b : Bool), Tr.eq t u = some b → ∀ {x y : V} {v w : Value} {A : Around}, At X.K H x t → At X.K H y u → RelV x v → RelV y w → A.units + t.dep < cLine → EqAt A s v w b
  | .non, .non, b, e, x, y, v, w, A, hx, hy, rx, ry, hu => by
    cases hx; cases hy; cases rx; cases ry
    cases Option.some.inj e
    exact EqAt.same _
  | .tup ts, .tup us, b, e, x, y, v, w, A, hx, hy, rx, ry, hu => by
    cases hx with
    | tup h1 hs1 =>
      cases hy with
      | tup h2 hs2 =>
        rename_i a1 xs1 a2 xs2
        cases (show v = Value.ref a1 from rx)
        cases (show w = Value.ref a2 from ry)
        by_cases ne : a1 = a2
        · subst ne
          cases I.tuple_inj h1 h2
          cases Ats.inj I hs1 hs2
          have : b = true := Tr.eq_self (.tup ts) b e
          rw [this]
          exact EqAt.same _
        · refine EqAt.of_refs ne ?_
          obtain ⟨vs, r1, ⟨o1, g1, c1, n1, d1⟩, _⟩ := I.tuple h1
          obtain ⟨ws, r2, ⟨o2, g2, c2, n2, d2⟩, _⟩ := I.tuple h2
          have e' : Tr.eqs ts us = some b := by simpa [Tr.eq] using e
          have hu' : A.in1.units + Tr.deps ts < cLine := by
            have : A.units + (Tr.deps ts + 1) < cLine := hu
            show A.units + 1 + Tr.deps ts < cLine
            omega
          obtain ⟨f, hf, eb⟩ := eqAts_T I ts us b e' (A := A.in1) hs1 hs2 r1 r2 hu'
          have hh := SeqAt.RcAt.tuples (s := s) (A := A) (e := f) ⟨o1, g1, c1, n1, d1⟩ ⟨o2, g2, c2, n2, d2⟩ (by omega) (fun j k1 k2 => by
            have := hf j (by simpa using k1) (by simpa using k2)
            simpa using this)
          rw [List.size_toArray, List.size_toArray, ← eb] at hh
          exact hh
  | .non, .bl q, b, e, x, y, v, w, A, hx, hy, rx, ry, hu => by
    cases hx; cases hy
    cases rx
    cases ry
    cases Option.some.inj e
    exact EqAt.none_bool _
  | .non, .int q, b, e, x, y, v, w, A, hx, hy, rx, ry, hu => by
    cases hx; cases hy
    cases rx
    obtain ⟨_, rfl⟩ := ry
    cases Option.some.inj e
    exact EqAt.none_int _ _
  | .non, .str q, b, e, x, y, v, w, A, hx, hy, rx, ry, hu => by
    cases hx; cases hy
    cases rx
    obtain ⟨_, rfl⟩ := ry
    cases Option.some.inj e
    exact EqAt.none_str _ _
  | .bl p, .non, b, e, x, y, v, w, A, hx, hy, rx, ry, hu => by
    cases hx; cases hy
    cases rx
    cases ry
    cases Option.some.inj e
    exact EqAt.bool_none _
  | .bl p, .bl q, b, e, x, y, v, w, A, hx, hy, rx, ry, hu => by
    cases hx; cases hy
    cases rx
    cases ry
    cases Option.some.inj e
    exact EqAt.bool_bool _ _
  | .bl p, .int q, b, e, x, y, v, w, A, hx, hy, rx, ry, hu => by
    cases hx; cases hy
    cases rx
    obtain ⟨_, rfl⟩ := ry
    cases Option.some.inj e
    exact EqAt.bool_int _ _ _
  | .bl p, .str q, b, e, x, y, v, w, A, hx, hy, rx, ry, hu => by
    cases hx; cases hy
    cases rx
    obtain ⟨_, rfl⟩ := ry
    cases Option.some.inj e
    exact EqAt.bool_str _ _ _
  | .int p, .non, b, e, x, y, v, w, A, hx, hy, rx, ry, hu => by
    cases hx; cases hy
    obtain ⟨_, rfl⟩ := rx
    cases ry
    cases Option.some.inj e
    exact EqAt.int_none _ _
  | .int p, .bl q, b, e, x, y, v, w, A, hx, hy, rx, ry, hu => by
    cases hx; cases hy
    obtain ⟨_, rfl⟩ := rx
    cases ry
    cases Option.some.inj e
    exact EqAt.int_bool _ _ _
  | .int p, .int q, b, e, x, y, v, w, A, hx, hy, rx, ry, hu => by
    cases hx; cases hy
    obtain ⟨_, rfl⟩ := rx
    obtain ⟨_, rfl⟩ := ry
    cases Option.some.inj e
    exact EqAt.int_int _ _ _ _
  | .int p, .str q, b, e, x, y, v, w, A, hx, hy, rx, ry, hu => by
    cases hx; cases hy
    obtain ⟨_, rfl⟩ := rx
    obtain ⟨_, rfl⟩ := ry
    cases Option.some.inj e
    exact EqAt.int_str _ _ _ _
  | .str p, .non, b, e, x, y, v, w, A, hx, hy, rx, ry, hu => by
    cases hx; cases hy
    obtain ⟨_, rfl⟩ := rx
    cases ry
    cases Option.some.inj e
    exact EqAt.str_none _ _
  | .str p, .bl q, b, e, x, y, v, w, A, hx, hy, rx, ry, hu => by
    cases hx; cases hy
    obtain ⟨_, rfl⟩ := rx
    cases ry
    cases Option.some.inj e
    exact EqAt.str_bool _ _ _
  | .str p, .int q, b, e, x, y, v, w, A, hx, hy, rx, ry, hu => by
    cases hx; cases hy
    obtain ⟨_, rfl⟩ := rx
    obtain ⟨_, rfl⟩ := ry
    cases Option.some.inj e
    exact EqAt.str_int _ _ _ _
  | .str p, .str q, b, e, x, y, v, w, A, hx, hy, rx, ry, hu => by
    cases hx; cases hy
    obtain ⟨_, rfl⟩ := rx
    obtain ⟨_, rfl⟩ := ry
    cases Option.some.inj e
    exact EqAt.str_str _ _ _ _
  | .non, .tup q, b, e, x, y, v, w, A, hx, hy, rx, ry, hu => by
    cases hx
    cases hy with
    | tup h2 hs2 =>
      rename_i a2 xs2
      cases rx
      cases (show w = Value.ref a2 from ry)
      cases Option.some.inj e
      obtain ⟨_, _, pl, _⟩ := I.tuple h2
      exact EqAt.none_tuple  pl (by omega)
  | .tup q, .non, b, e, x, y, v, w, A, hx, hy, rx, ry, hu => by
    cases hy
    cases hx with
    | tup h1 hs1 =>
      rename_i a1 xs1
      cases ry
      cases (show v = Value.ref a1 from rx)
      cases Option.some.inj e
      obtain ⟨_, _, pl, _⟩ := I.tuple h1
      exact EqAt.tuple_none  pl (by omega)
  | .non, .lst q, b, e, x, y, v, w, A, hx, hy, rx, ry, hu => by
    cases hx
    cases hy with
    | lst h2 hs2 =>
      rename_i a2 xs2
      cases rx
      cases (show w = Value.ref a2 from ry)
      cases Option.some.inj e
      obtain ⟨_, _, pl, _⟩ := I.list h2
      exact EqAt.none_list  pl.isList (by omega)
  | .lst q, .non, b, e, x, y, v, w, A, hx, hy, rx, ry, hu => by
    cases hy
    cases hx with
    | lst h1 hs1 =>
      rename_i a1 xs1
      cases ry
      cases (show v = Value.ref a1 from rx)
      cases Option.some.inj e
      obtain ⟨_, _, pl, _⟩ := I.list h1
      exact EqAt.list_none  pl.isList (by omega)
  | .bl p, .tup q, b, e, x, y, v, w, A, hx, hy, rx, ry, hu => by
    cases hx
    cases hy with
    | tup h2 hs2 =>
      rename_i a2 xs2
      cases rx
      cases (show w = Value.ref a2 from ry)
      cases Option.some.inj e
      obtain ⟨_, _, pl, _⟩ := I.tuple h2
      exact EqAt.bool_tuple _ pl (by omega)
  | .tup q, .bl p, b, e, x, y, v, w, A, hx, hy, rx, ry, hu => by
    cases hy
    cases hx with
    | tup h1 hs1 =>
      rename_i a1 xs1
      cases ry
      cases (show v = Value.ref a1 from rx)
      cases Option.some.inj e
      obtain ⟨_, _, pl, _⟩ := I.tuple h1
      exact EqAt.tuple_bool _ pl (by omega)
  | .bl p, .lst q, b, e, x, y, v, w, A, hx, hy, rx, ry, hu => by
    cases hx
    cases hy with
    | lst h2 hs2 =>
      rename_i a2 xs2
      cases rx
      cases (show w = Value.ref a2 from ry)
      cases Option.some.inj e
      obtain ⟨_, _, pl, _⟩ := I.list h2
      exact EqAt.bool_list _ pl.isList (by omega)
  | .lst q, .bl p, b, e, x, y, v, w, A, hx, hy, rx, ry, hu => by
    cases hy
    cases hx with
    | lst h1 hs1 =>
      rename_i a1 xs1
      cases ry
      cases (show v = Value.ref a1 from rx)
      cases Option.some.inj e
      obtain ⟨_, _, pl, _⟩ := I.list h1
      exact EqAt.list_bool _ pl.isList (by omega)
  | .int p, .tup q, b, e, x, y, v, w, A, hx, hy, rx, ry, hu => by
    cases hx
    cases hy with
    | tup h2 hs2 =>
      rename_i a2 xs2
      obtain ⟨_, rfl⟩ := rx
      cases (show w = Value.ref a2 from ry)
      cases Option.some.inj e
      obtain ⟨_, _, pl, _⟩ := I.tuple h2
      exact EqAt.int_tuple _ _ pl (by omega)
  | .tup q, .int p, b, e, x, y, v, w, A, hx, hy, rx, ry, hu => by
    cases hy
    cases hx with
    | tup h1 hs1 =>
      rename_i a1 xs1
      obtain ⟨_, rfl⟩ := ry
      cases (show v = Value.ref a1 from rx)
      cases Option.some.inj e
      obtain ⟨_, _, pl, _⟩ := I.tuple h1
      exact EqAt.tuple_int _ _ pl (by omega)
  | .int p, .lst q, b, e, x, y, v, w, A, hx, hy, rx, ry, hu => by
    cases hx
    cases hy with
    | lst h2 hs2 =>
      rename_i a2 xs2
      obtain ⟨_, rfl⟩ := rx
      cases (show w = Value.ref a2 from ry)
      cases Option.some.inj e
      obtain ⟨_, _, pl, _⟩ := I.list h2
      exact EqAt.int_list _ _ pl.isList (by omega)
  | .lst q, .int p, b, e, x, y, v, w, A, hx, hy, rx, ry, hu => by
    cases hy
    cases hx with
    | lst h1 hs1 =>
      rename_i a1 xs1
      obtain ⟨_, rfl⟩ := ry
      cases (show v = Value.ref a1 from rx)
      cases Option.some.inj e
      obtain ⟨_, _, pl, _⟩ := I.list h1
      exact EqAt.list_int _ _ pl.isList (by omega)
  | .str p, .tup q, b, e, x, y, v, w, A, hx, hy, rx, ry, hu => by
    cases hx
    cases hy with
    | tup h2 hs2 =>
      rename_i a2 xs2
      obtain ⟨_, rfl⟩ := rx
      cases (show w = Value.ref a2 from ry)
      cases Option.some.inj e
      obtain ⟨_, _, pl, _⟩ := I.tuple h2
      exact EqAt.str_tuple _ _ pl (by omega)
  | .tup q, .str p, b, e, x, y, v, w, A, hx, hy, rx, ry, hu => by
    cases hy
    cases hx with
    | tup h1 hs1 =>
      rename_i a1 xs1
      obtain ⟨_, rfl⟩ := ry
      cases (show v = Value.ref a1 from rx)
      cases Option.some.inj e
      obtain ⟨_, _, pl, _⟩ := I.tuple h1
      exact EqAt.tuple_str _ _ pl (by omega)
  | .str p, .lst q, b, e, x, y, v, w, A, hx, hy, rx, ry, hu => by
    cases hx
    cases hy with
    | lst h2 hs2 =>
      rename_i a2 xs2
      obtain ⟨_, rfl⟩ := rx
      cases (show w = Value.ref a2 from ry)
      cases Option.some.inj e
      obtain ⟨_, _, pl, _⟩ := I.list h2
      exact EqAt.str_list _ _ pl.isList (by omega)
  | .lst q, .str p, b, e, x, y, v, w, A, hx, hy, rx, ry, hu => by
    cases hy
    cases hx with
    | lst h1 hs1 =>
      rename_i a1 xs1
      obtain ⟨_, rfl⟩ := ry
      cases (show v = Value.ref a1 from rx)
      cases Option.some.inj e
      obtain ⟨_, _, pl, _⟩ := I.list h1
      exact EqAt.list_str _ _ pl.isList (by omega)
  | .str p, .dct, b, e, x, y, v, w, A, hx, hy, rx, ry, hu => by
    cases hx
    cases hy with
    | dct h2 =>
      rename_i a2 xs2
      obtain ⟨_, rfl⟩ := rx
      cases (show w = Value.ref a2 from ry)
      cases Option.some.inj e
      exact EqAt.str_dict _ _ (I.isDct h2) (by omega)
  | .dct, .str p, b, e, x, y, v, w, A, hx, hy, rx, ry, hu => by
    cases hy
    cases hx with
    | dct h1 =>
      rename_i a1 xs1
      obtain ⟨_, rfl⟩ := ry
      cases (show v = Value.ref a1 from rx)
      cases Option.some.inj e
      exact EqAt.dict_str _ _ (I.isDct h1) (by omega)
  | .tup ts, .dct, b, e, x, y, v, w, A, hx, hy, rx, ry, hu => by
    cases hy with
    | dct h2 =>
      rename_i a2 xs2
      cases hx with
      | tup h1 hs1 =>
        rename_i a1 xs1
        cases (show v = Value.ref a1 from rx)
        cases (show w = Value.ref a2 from ry)
        cases Option.some.inj e
        obtain ⟨_, _, pl, _⟩ := I.tuple h1
        exact EqAt.tuple_dict pl (I.isDct h2) (by omega)
  | .tup ts, .lst us, b, e, x, y, v, w, A, hx, hy, rx, ry, hu => by
    cases hy with
    | lst h2 hs2 =>
      rename_i a2 xs2
      cases hx with
      | tup h1 hs1 =>
        rename_i a1 xs1
        cases (show v = Value.ref a1 from rx)
        cases (show w = Value.ref a2 from ry)
        cases Option.some.inj e
        obtain ⟨_, _, p1, _⟩ := I.tuple h1
        obtain ⟨_, _, p2, _⟩ := I.list h2
        exact EqAt.tuple_list p1 p2.isList (by omega)
  | .lst ts, .tup us, b, e, x, y, v, w, A, hx, hy, rx, ry, hu => by
    cases hy with
    | tup h2 hs2 =>
      rename_i a2 xs2
      cases hx with
      | lst h1 hs1 =>
        rename_i a1 xs1
        cases (show v = Value.ref a1 from rx)
        cases (show w = Value.ref a2 from ry)
        cases Option.some.inj e
        obtain ⟨_, _, p1, _⟩ := I.list h1
        obtain ⟨_, _, p2, _⟩ := I.tuple h2
        exact EqAt.list_tuple p1.isList p2 (by omega)
  | .lst ts, .lst us, b, e, x, y, v, w, A, hx, hy, rx, ry, hu => by
    cases hx with
    | lst h1 hs1 =>
      cases hy with
      | lst h2 hs2 =>
        rename_i a1 xs1 a2 xs2
        cases (show v = Value.ref a1 from rx)
        cases (show w = Value.ref a2 from ry)
        by_cases ne : a1 = a2
        · subst ne
          cases I.list_inj h1 h2
          cases Ats.inj I hs1 hs2
          have : b = true := Tr.eq_self (.lst ts) b e
          rw [this]
          exact EqAt.same _
        · refine EqAt.of_refs ne ?_
          obtain ⟨vs, r1, p1, _⟩ := I.list h1
          obtain ⟨ws, r2, p2, _⟩ := I.list h2
          have l1 := r1.length
          have l2 := r2.length
          have k1 := hs1.len
          have k2 := hs2.len
          by_cases hl : ts.length = us.length
          · have e' : Tr.eqs ts us = some b := by
              have e := e
              simp only [Tr.eq, if_pos hl] at e
              exact e
            have hu' : A.in1.units + Tr.deps ts < cLine := by
              have : A.units + (Tr.deps ts + 1) < cLine := hu
              show A.units + 1 + Tr.deps ts < cLine
              omega
            obtain ⟨f, hf, eb⟩ := eqAts_T I ts us b e' (A := A.in1) hs1 hs2 r1 r2 hu'
            have hl' : vs.length = ws.length := by omega
            have hh := SeqAt.RcAt.lists (s := s) (A := A) (e := f) p1.isList p2.isList (by simpa using hl') (by omega) (fun j k1 k2 => by
              have := hf j (by simpa using k1) (by simpa using k2)
              simpa using this)
            rw [List.size_toArray] at hh
            rw [hl', Nat.min_self] at eb
            simp only [beq_self_eq_true, Bool.and_true] at eb
            rw [hl', ← eb] at hh
            exact hh
          · have e : false = b := by
              simp only [Tr.eq, if_neg hl] at e
              exact Option.some.inj e
            rw [← e]
            refine SeqAt.RcAt.lists_lengths p1.isList p2.isList ?_ (by omega)
            simp only [List.size_toArray, bne_iff_ne, ne_eq]
            omega
  | .non, .dct, b, e, x, y, v, w, A, hx, hy, rx, ry, hu => by
    simp [Tr.eq] at e
  | .bl _, .dct, b, e, x, y, v, w, A, hx, hy, rx, ry, hu => by
    simp [Tr.eq] at e
  | .int _, .dct, b, e, x, y, v, w, A, hx, hy, rx, ry, hu => by
    simp [Tr.eq] at e
  | .lst _, .dct, b, e, x, y, v, w, A, hx, hy, rx, ry, hu => by
    simp [Tr.eq] at e
  | .dct, .non, b, e, x, y, v, w, A, hx, hy, rx, ry, hu => by
    simp [Tr.eq] at e
  | .dct, .bl _, b, e, x, y, v, w, A, hx, hy, rx, ry, hu => by
    simp [Tr.eq] at e
  | .dct, .int _, b, e, x, y, v, w, A, hx, hy, rx, ry, hu => by
    simp [Tr.eq] at e
  | .dct, .tup _, b, e, x, y, v, w, A, hx, hy, rx, ry, hu => by
    simp [Tr.eq] at e
  | .dct, .lst _, b, e, x, y, v, w, A, hx, hy, rx, ry, hu => by
    simp [Tr.eq] at e
  | .dct, .dct, b, e, x, y, v, w, A, hx, hy, rx, ry, hu => by
    simp [Tr.eq] at e
theorem eqAts_T (I : Inv X pins σ H s) : ∀ (ts us : List Tr) (b : Bool), Tr.eqs ts us = some b → ∀ {xs ys : List V} {vs ws : List Value} {A : Around}, Ats X.K H xs ts → Ats X.K H ys us → Vals xs vs → Vals ys ws → A.units + Tr.deps ts < cLine →
    ∃ f : Nat → Bool, (∀ j (h1 : j < vs.length) (h2 : j < ws.length), EqAt A s vs[j] ws[j] (f j)) ∧ b = ((List.range (min vs.length ws.length)).all f && vs.length == ws.length)
  | [], [], b, e, xs, ys, vs, ws, A, hx, hy, rx, ry, hu => by
    cases hx; cases hy; cases rx; cases ry
    cases Option.some.inj (show some true = some b from by simpa [Tr.eqs] using e)
    exact ⟨fun _ => true, fun j h1 => absurd h1 (Nat.not_lt_zero j), rfl⟩
  | [], u :: us, b, e, xs, ys, vs, ws, A, hx, hy, rx, ry, hu => by
    cases hx; cases rx; cases hy; cases ry
    cases Option.some.inj (show some false = some b from by simpa [Tr.eqs] using e)
    exact ⟨fun _ => true, fun j h1 => absurd h1 (Nat.not_lt_zero j), by simp⟩
  | t :: ts, [], b, e, xs, ys, vs, ws, A, hx, hy, rx, ry, hu => by
    cases hx; cases rx; cases hy; cases ry
    cases Option.some.inj (show some false = some b from by simpa [Tr.eqs] using e)
    exact ⟨fun _ => true, fun j _ h2 => absurd h2 (Nat.not_lt_zero j), by simp⟩
  | t :: ts, u :: us, b, e, xs, ys, vs, ws, A, hx, hy, rx, ry, hu => by
    cases hx with
    | cons hx hxs =>
      cases hy with
      | cons hy hys =>
        cases rx with
        | cons rx rxs =>
          cases ry with
          | cons ry rys =>
            simp only [Tr.eqs] at e
            cases e1 : Tr.eq t u with
            | none => rw [e1] at e; simp at e
            | some c =>
              rw [e1] at e
              cases e2 : Tr.eqs ts us with
              | none => rw [e2] at e; simp at e
              | some d =>
                rw [e2] at e
                have e : (c && d) = b := Option.some.inj e
                have hd : A.units + max t.dep (Tr.deps ts) < cLine := hu
                have q1 := eqAt_T I t u c e1 (A := A) hx hy rx ry (by omega)
                obtain ⟨f, hf, eb⟩ := eqAts_T I ts us d e2 (A := A) hxs hys rxs rys (by omega)
                refine ⟨fun j => match j with | 0 => c | j + 1 => f j, fun j h1 h2 => ?_, ?_⟩
                · cases j with
                  | zero => exact q1
                  | succ j => exact hf j (by simpa using h1) (by simpa using h2)
                · rw [← e, eb]
                  simp only [List.length_cons]
                  rw [Nat.add_min_add_right, List.range_succ_eq_map, List.all_cons, List.all_map]
                  simp [Function.comp_def, Bool.and_assoc]
end
end
end L2

set_option maxRecDepth 100000
set_option maxHeartbeats 4000000
namespace L2
open PySem PySem.Spec PyProof.Rows SeqAt
namespace Tr
/-- what in tells -/
def anyEq : List Tr → Tr → Option Bool
  | [], _ => some false
  | t :: ts, u => match eq t u, anyEq ts u with
    | some b, some c => some (b || c)
    | _, _ => none
end Tr
theorem relV_inj {x y : V} {u : Value} (h : RelV x u) (k : RelV y u) : x = y := h.inj k
section
variable {X : Cx} {pins : List (Addr × Obj)} {σ : St} {H : Hp} {s : Shared}
theorem rcAt_T (I : Inv X pins σ H s) : ∀ (t u : Tr) (b : Bool), Tr.eq t u = some b → ∀ {x y : V} {v w : Value} {A : Around}, At X.K H x t → At X.K H y u → RelV x v → RelV y w → A.units + t.dep < cLine → RcAt A s v w b
  | .non, .non, b, e, x, y, v, w, A, hx, hy, rx, ry, hu => by
    cases hx; cases hy; cases rx; cases ry
    cases Option.some.inj e
    exact RcAt.none_none
  | .tup ts, .tup us, b, e, x, y, v, w, A, hx, hy, rx, ry, hu => by
    cases hx with
    | tup h1 hs1 =>
      cases hy with
      | tup h2 hs2 =>
        rename_i a1 xs1 a2 xs2
        cases (show v = Value.ref a1 from rx)
        cases (show w = Value.ref a2 from ry)
        · skip
          obtain ⟨vs, r1, ⟨o1, g1, c1, n1, d1⟩, _⟩ := I.tuple h1
          obtain ⟨ws, r2, ⟨o2, g2, c2, n2, d2⟩, _⟩ := I.tuple h2
          have e' : Tr.eqs ts us = some b := by simpa [Tr.eq] using e
          have hu' : A.in1.units + Tr.deps ts < cLine := by
            have : A.units + (Tr.deps ts + 1) < cLine := hu
            show A.units + 1 + Tr.deps ts < cLine
            omega
          obtain ⟨f, hf, eb⟩ := eqAts_T I ts us b e' (A := A.in1) hs1 hs2 r1 r2 hu'
          have hh := SeqAt.RcAt.tuples (s := s) (A := A) (e := f) ⟨o1, g1, c1, n1, d1⟩ ⟨o2, g2, c2, n2, d2⟩ (by omega) (fun j k1 k2 => by
            have := hf j (by simpa using k1) (by simpa using k2)
            simpa using this)
          rw [List.size_toArray, List.size_toArray, ← eb] at hh
          exact hh
  | .non, .bl q, b, e, x, y, v, w, A, hx, hy, rx, ry, hu => by
    cases hx; cases hy
    cases rx
    cases ry
    cases Option.some.inj e
    exact RcAt.none_bool _
  | .non, .int q, b, e, x, y, v, w, A, hx, hy, rx, ry, hu => by
    cases hx; cases hy
    cases rx
    obtain ⟨_, rfl⟩ := ry
    cases Option.some.inj e
    exact RcAt.none_int _ _
  | .non, .str q, b, e, x, y, v, w, A, hx, hy, rx, ry, hu => by
    cases hx; cases hy
    cases rx
    obtain ⟨_, rfl⟩ := ry
    cases Option.some.inj e
    exact RcAt.none_str _ _
  | .bl p, .non, b, e, x, y, v, w, A, hx, hy, rx, ry, hu => by
    cases hx; cases hy
    cases rx
    cases ry
    cases Option.some.inj e
    exact RcAt.bool_none _
  | .bl p, .bl q, b, e, x, y, v, w, A, hx, hy, rx, ry, hu => by
    cases hx; cases hy
    cases rx
    cases ry
    cases Option.some.inj e
    exact RcAt.bool_bool _ _
  | .bl p, .int q, b, e, x, y, v, w, A, hx, hy, rx, ry, hu => by
    cases hx; cases hy
    cases rx
    obtain ⟨_, rfl⟩ := ry
    cases Option.some.inj e
    exact RcAt.bool_int _ _ _
  | .bl p, .str q, b, e, x, y, v, w, A, hx, hy, rx, ry, hu => by
    cases hx; cases hy
    cases rx
    obtain ⟨_, rfl⟩ := ry
    cases Option.some.inj e
    exact RcAt.bool_str _ _ _
  | .int p, .non, b, e, x, y, v, w, A, hx, hy, rx, ry, hu => by
    cases hx; cases hy
    obtain ⟨_, rfl⟩ := rx
    cases ry
    cases Option.some.inj e
    exact RcAt.int_none _ _
  | .int p, .bl q, b, e, x, y, v, w, A, hx, hy, rx, ry, hu => by
    cases hx; cases hy
    obtain ⟨_, rfl⟩ := rx
    cases ry
    cases Option.some.inj e
    exact RcAt.int_bool _ _ _
  | .int p, .int q, b, e, x, y, v, w, A, hx, hy, rx, ry, hu => by
    cases hx; cases hy
    obtain ⟨_, rfl⟩ := rx
    obtain ⟨_, rfl⟩ := ry
    cases Option.some.inj e
    exact RcAt.int_int _ _ _ _
  | .int p, .str q, b, e, x, y, v, w, A, hx, hy, rx, ry, hu => by
    cases hx; cases hy
    obtain ⟨_, rfl⟩ := rx
    obtain ⟨_, rfl⟩ := ry
    cases Option.some.inj e
    exact RcAt.int_str _ _ _ _
  | .str p, .non, b, e, x, y, v, w, A, hx, hy, rx, ry, hu => by
    cases hx; cases hy
    obtain ⟨_, rfl⟩ := rx
    cases ry
    cases Option.some.inj e
    exact RcAt.str_none _ _
  | .str p, .bl q, b, e, x, y, v, w, A, hx, hy, rx, ry, hu => by
    cases hx; cases hy
    obtain ⟨_, rfl⟩ := rx
    cases ry
    cases Option.some.inj e
    exact RcAt.str_bool _ _ _
  | .str p, .int q, b, e, x, y, v, w, A, hx, hy, rx, ry, hu => by
    cases hx; cases hy
    obtain ⟨_, rfl⟩ := rx
    obtain ⟨_, rfl⟩ := ry
    cases Option.some.inj e
    exact RcAt.str_int _ _ _ _
  | .str p, .str q, b, e, x, y, v, w, A, hx, hy, rx, ry, hu => by
    cases hx; cases hy
    obtain ⟨_, rfl⟩ := rx
    obtain ⟨_, rfl⟩ := ry
    cases Option.some.inj e
    exact RcAt.str_str _ _ _ _
  | .non, .tup q, b, e, x, y, v, w, A, hx, hy, rx, ry, hu => by
    cases hx
    cases hy with
    | tup h2 hs2 =>
      rename_i a2 xs2
      cases rx
      cases (show w = Value.ref a2 from ry)
      cases Option.some.inj e
      obtain ⟨_, _, pl, _⟩ := I.tuple h2
      exact RcAt.none_tuple  pl (by omega)
  | .tup q, .non, b, e, x, y, v, w, A, hx, hy, rx, ry, hu => by
    cases hy
    cases hx with
    | tup h1 hs1 =>
      rename_i a1 xs1
      cases ry
      cases (show v = Value.ref a1 from rx)
      cases Option.some.inj e
      obtain ⟨_, _, pl, _⟩ := I.tuple h1
      exact RcAt.tuple_none  pl (by omega)
  | .non, .lst q, b, e, x, y, v, w, A, hx, hy, rx, ry, hu => by
    cases hx
    cases hy with
    | lst h2 hs2 =>
      rename_i a2 xs2
      cases rx
      cases (show w = Value.ref a2 from ry)
      cases Option.some.inj e
      obtain ⟨_, _, pl, _⟩ := I.list h2
      exact RcAt.none_list  pl.isList (by omega)
  | .lst q, .non, b, e, x, y, v, w, A, hx, hy, rx, ry, hu => by
    cases hy
    cases hx with
    | lst h1 hs1 =>
      rename_i a1 xs1
      cases ry
      cases (show v = Value.ref a1 from rx)
      cases Option.some.inj e
      obtain ⟨_, _, pl, _⟩ := I.list h1
      exact RcAt.list_none  pl.isList (by omega)
  | .bl p, .tup q, b, e, x, y, v, w, A, hx, hy, rx, ry, hu => by
    cases hx
    cases hy with
    | tup h2 hs2 =>
      rename_i a2 xs2
      cases rx
      cases (show w = Value.ref a2 from ry)
      cases Option.some.inj e
      obtain ⟨_, _, pl, _⟩ := I.tuple h2
      exact RcAt.bool_tuple _ pl (by omega)
  | .tup q, .bl p, b, e, x, y, v, w, A, hx, hy, rx, ry, hu => by
    cases hy
    cases hx with
    | tup h1 hs1 =>
      rename_i a1 xs1
      cases ry
      cases (show v = Value.ref a1 from rx)
      cases Option.some.inj e
      obtain ⟨_, _, pl, _⟩ := I.tuple h1
      exact RcAt.tuple_bool _ pl (by omega)
  | .bl p, .lst q, b, e, x, y, v, w, A, hx, hy, rx, ry, hu => by
    cases hx
    cases hy with
    | lst h2 hs2 =>
      rename_i a2 xs2
      cases rx
      cases (show w = Value.ref a2 from ry)
      cases Option.some.inj e
      obtain ⟨_, _, pl, _⟩ := I.list h2
      exact RcAt.bool_list _ pl.isList (by omega)
  | .lst q, .bl p, b, e, x, y, v, w, A, hx, hy, rx, ry, hu => by
    cases hy
    cases hx with
    | lst h1 hs1 =>
      rename_i a1 xs1
      cases ry
      cases (show v = Value.ref a1 from rx)
      cases Option.some.inj e
      obtain ⟨_, _, pl, _⟩ := I.list h1
      exact RcAt.list_bool _ pl.isList (by omega)
  | .int p, .tup q, b, e, x, y, v, w, A, hx, hy, rx, ry, hu => by
    cases hx
    cases hy with
    | tup h2 hs2 =>
      rename_i a2 xs2
      obtain ⟨_, rfl⟩ := rx
      cases (show w = Value.ref a2 from ry)
      cases Option.some.inj e
      obtain ⟨_, _, pl, _⟩ := I.tuple h2
      exact RcAt.int_tuple _ _ pl (by omega)
  | .tup q, .int p, b, e, x, y, v, w, A, hx, hy, rx, ry, hu => by
    cases hy
    cases hx with
    | tup h1 hs1 =>
      rename_i a1 xs1
      obtain ⟨_, rfl⟩ := ry
      cases (show v = Value.ref a1 from rx)
      cases Option.some.inj e
      obtain ⟨_, _, pl, _⟩ := I.tuple h1
      exact RcAt.tuple_int _ _ pl (by omega)
  | .int p, .lst q, b, e, x, y, v, w, A, hx, hy, rx, ry, hu => by
    cases hx
    cases hy with
    | lst h2 hs2 =>
      rename_i a2 xs2
      obtain ⟨_, rfl⟩ := rx
      cases (show w = Value.ref a2 from ry)
      cases Option.some.inj e
      obtain ⟨_, _, pl, _⟩ := I.list h2
      exact RcAt.int_list _ _ pl.isList (by omega)
  | .lst q, .int p, b, e, x, y, v, w, A, hx, hy, rx, ry, hu => by
    cases hy
    cases hx with
    | lst h1 hs1 =>
      rename_i a1 xs1
      obtain ⟨_, rfl⟩ := ry
      cases (show v = Value.ref a1 from rx)
      cases Option.some.inj e
      obtain ⟨_, _, pl, _⟩ := I.list h1
      exact RcAt.list_int _ _ pl.isList (by omega)
  | .str p, .tup q, b, e, x, y, v, w, A, hx, hy, rx, ry, hu => by
    cases hx
    cases hy with
    | tup h2 hs2 =>
      rename_i a2 xs2
      obtain ⟨_, rfl⟩ := rx
      cases (show w = Value.ref a2 from ry)
      cases Option.some.inj e
      obtain ⟨_, _, pl, _⟩ := I.tuple h2
      exact RcAt.str_tuple _ _ pl (by omega)
  | .tup q, .str p, b, e, x, y, v, w, A, hx, hy, rx, ry, hu => by
    cases hy
    cases hx with
    | tup h1 hs1 =>
      rename_i a1 xs1
      obtain ⟨_, rfl⟩ := ry
      cases (show v = Value.ref a1 from rx)
      cases Option.some.inj e
      obtain ⟨_, _, pl, _⟩ := I.tuple h1
      exact RcAt.tuple_str _ _ pl (by omega)
  | .str p, .lst q, b, e, x, y, v, w, A, hx, hy, rx, ry, hu => by
    cases hx
    cases hy with
    | lst h2 hs2 =>
      rename_i a2 xs2
      obtain ⟨_, rfl⟩ := rx
      cases (show w = Value.ref a2 from ry)
      cases Option.some.inj e
      obtain ⟨_, _, pl, _⟩ := I.list h2
      exact RcAt.str_list _ _ pl.isList (by omega)
  | .lst q, .str p, b, e, x, y, v, w, A, hx, hy, rx, ry, hu => by
    cases hy
    cases hx with
    | lst h1 hs1 =>
      rename_i a1 xs1
      obtain ⟨_, rfl⟩ := ry
      cases (show v = Value.ref a1 from rx)
      cases Option.some.inj e
      obtain ⟨_, _, pl, _⟩ := I.list h1
      exact RcAt.list_str _ _ pl.isList (by omega)
  | .str p, .dct, b, e, x, y, v, w, A, hx, hy, rx, ry, hu => by
    cases hx
    cases hy with
    | dct h2 =>
      rename_i a2 xs2
      obtain ⟨_, rfl⟩ := rx
      cases (show w = Value.ref a2 from ry)
      cases Option.some.inj e
      exact RcAt.str_dict _ _ (I.isDct h2) (by omega)
  | .dct, .str p, b, e, x, y, v, w, A, hx, hy, rx, ry, hu => by
    cases hy
    cases hx with
    | dct h1 =>
      rename_i a1 xs1
      obtain ⟨_, rfl⟩ := ry
      cases (show v = Value.ref a1 from rx)
      cases Option.some.inj e
      exact RcAt.dict_str _ _ (I.isDct h1) (by omega)
  | .tup ts, .dct, b, e, x, y, v, w, A, hx, hy, rx, ry, hu => by
    cases hy with
    | dct h2 =>
      rename_i a2 xs2
      cases hx with
      | tup h1 hs1 =>
        rename_i a1 xs1
        cases (show v = Value.ref a1 from rx)
        cases (show w = Value.ref a2 from ry)
        cases Option.some.inj e
        obtain ⟨_, _, pl, _⟩ := I.tuple h1
        exact RcAt.tuple_dict pl (I.isDct h2) (by omega)
  | .tup ts, .lst us, b, e, x, y, v, w, A, hx, hy, rx, ry, hu => by
    cases hy with
    | lst h2 hs2 =>
      rename_i a2 xs2
      cases hx with
      | tup h1 hs1 =>
        rename_i a1 xs1
        cases (show v = Value.ref a1 from rx)
        cases (show w = Value.ref a2 from ry)
        cases Option.some.inj e
        obtain ⟨_, _, p1, _⟩ := I.tuple h1
        obtain ⟨_, _, p2, _⟩ := I.list h2
        exact RcAt.tuple_list p1 p2.isList (by omega)
  | .lst ts, .tup us, b, e, x, y, v, w, A, hx, hy, rx, ry, hu => by
    cases hy with
    | tup h2 hs2 =>
      rename_i a2 xs2
      cases hx with
      | lst h1 hs1 =>
        rename_i a1 xs1
        cases (show v = Value.ref a1 from rx)
        cases (show w = Value.ref a2 from ry)
        cases Option.some.inj e
        obtain ⟨_, _, p1, _⟩ := I.list h1
        obtain ⟨_, _, p2, _⟩ := I.tuple h2
        exact RcAt.list_tuple p1.isList p2 (by omega)
  | .lst ts, .lst us, b, e, x, y, v, w, A, hx, hy, rx, ry, hu => by
    cases hx with
    | lst h1 hs1 =>
      cases hy with
      | lst h2 hs2 =>
        rename_i a1 xs1 a2 xs2
        cases (show v = Value.ref a1 from rx)
        cases (show w = Value.ref a2 from ry)
        · skip
          obtain ⟨vs, r1, p1, _⟩ := I.list h1
          obtain ⟨ws, r2, p2, _⟩ := I.list h2
          have l1 := r1.length
          have l2 := r2.length
          have k1 := hs1.len
          have k2 := hs2.len
          by_cases hl : ts.length = us.length
          · have e' : Tr.eqs ts us = some b := by
              have e := e
              simp only [Tr.eq, if_pos hl] at e
              exact e
            have hu' : A.in1.units + Tr.deps ts < cLine := by
              have : A.units + (Tr.deps ts + 1) < cLine := hu
              show A.units + 1 + Tr.deps ts < cLine
              omega
            obtain ⟨f, hf, eb⟩ := eqAts_T I ts us b e' (A := A.in1) hs1 hs2 r1 r2 hu'
            have hl' : vs.length = ws.length := by omega
            have hh := SeqAt.RcAt.lists (s := s) (A := A) (e := f) p1.isList p2.isList (by simpa using hl') (by omega) (fun j k1 k2 => by
              have := hf j (by simpa using k1) (by simpa using k2)
              simpa using this)
            rw [List.size_toArray] at hh
            rw [hl', Nat.min_self] at eb
            simp only [beq_self_eq_true, Bool.and_true] at eb
            rw [hl', ← eb] at hh
            exact hh
          · have e : false = b := by
              simp only [Tr.eq, if_neg hl] at e
              exact Option.some.inj e
            rw [← e]
            refine SeqAt.RcAt.lists_lengths p1.isList p2.isList ?_ (by omega)
            simp only [List.size_toArray, bne_iff_ne, ne_eq]
            omega
  | .non, .dct, b, e, x, y, v, w, A, hx, hy, rx, ry, hu => by
    simp [Tr.eq] at e
  | .bl _, .dct, b, e, x, y, v, w, A, hx, hy, rx, ry, hu => by
    simp [Tr.eq] at e
  | .int _, .dct, b, e, x, y, v, w, A, hx, hy, rx, ry, hu => by
    simp [Tr.eq] at e
  | .lst _, .dct, b, e, x, y, v, w, A, hx, hy, rx, ry, hu => by
    simp [Tr.eq] at e
  | .dct, .non, b, e, x, y, v, w, A, hx, hy, rx, ry, hu => by
    simp [Tr.eq] at e
  | .dct, .bl _, b, e, x, y, v, w, A, hx, hy, rx, ry, hu => by
    simp [Tr.eq] at e
  | .dct, .int _, b, e, x, y, v, w, A, hx, hy, rx, ry, hu => by
    simp [Tr.eq] at e
  | .dct, .tup _, b, e, x, y, v, w, A, hx, hy, rx, ry, hu => by
    simp [Tr.eq] at e
  | .dct, .lst _, b, e, x, y, v, w, A, hx, hy, rx, ry, hu => by
    simp [Tr.eq] at e
  | .dct, .dct, b, e, x, y, v, w, A, hx, hy, rx, ry, hu => by
    simp [Tr.eq] at e

theorem in_T (I : Inv X pins σ H s) {u : Tr} {x : V} {w : Value} {A : Around} (hx : At X.K H x u) (rx : RelV x w) : ∀ {ts : List Tr} {b : Bool} {xs : List V} {vs : List Value}, Tr.anyEq ts u = some b → Ats X.K H xs ts → Vals xs vs → A.units + Tr.deps ts < cLine →
    ∃ e : Value → Bool, (∀ v ∈ vs, EqAt A s v w (e v)) ∧ vs.any e = b ∧ ∀ v, v ∈ vs → ∀ (y : V) (t : Tr), RelV y v → At X.K H y t → Tr.eq t u = some (e v)
  | [], b, xs, vs, h, hs, r, _ => by
    cases hs; cases r
    cases Option.some.inj (show some false = some b from by simpa [Tr.anyEq] using h)
    exact ⟨fun _ => false, (fun v hv => by cases hv), rfl, (fun v hv => by cases hv)⟩
  | t :: ts, b, xs, vs, h, hs, r, hu => by
    cases hs with
    | cons ht hts =>
      cases r with
      | cons rt rts =>
        rename_i x0 xs0 v0 vs0
        simp only [Tr.anyEq] at h
        cases e1 : Tr.eq t u with
        | none => rw [e1] at h; simp at h
        | some c =>
          rw [e1] at h
          cases e2 : Tr.anyEq ts u with
          | none => rw [e2] at h; simp at h
          | some d =>
            rw [e2] at h
            have h : (c || d) = b := Option.some.inj h
            have hd : A.units + max t.dep (Tr.deps ts) < cLine := hu
            have q1 := eqAt_T I t u c e1 (A := A) ht hx rt rx (by omega)
            obtain ⟨e, he, ea, ei⟩ := in_T I hx rx (A := A) e2 hts rts (by omega)
            classical
            have inn : v0 ∈ vs0 → e v0 = c := fun hm => by
              have := ei v0 hm x0 t rt ht
              rw [e1] at this
              exact (Option.some.inj this).symm
            refine ⟨fun v => if v = v0 then c else e v, fun v hv => ?_, ?_, fun v hv y t' ry hy => ?_⟩
            · show EqAt A s v w (if v = v0 then c else e v)
              by_cases q : v = v0
              · rw [if_pos q, q]; exact q1
              · rw [if_neg q]
                rcases List.mem_cons.mp hv with z | z
                · exact absurd z q
                · exact he v z
            · rw [List.any_cons, if_pos rfl, ← h]
              have : vs0.any (fun v => if v = v0 then c else e v) = vs0.any e := by
                apply Bool.eq_iff_iff.mpr
                simp only [List.any_eq_true]
                constructor
                · rintro ⟨v, hv, q⟩
                  refine ⟨v, hv, ?_⟩
                  by_cases z : v = v0
                  · rw [if_pos z] at q
                    rw [z, inn (z ▸ hv)]
                    exact q
                  · rw [if_neg z] at q
                    exact q
                · rintro ⟨v, hv, q⟩
                  refine ⟨v, hv, ?_⟩
                  by_cases z : v = v0
                  · rw [if_pos z, ← inn (z ▸ hv), ← z]
                    exact q
                  · rw [if_neg z]
                    exact q
              rw [this, ea]
            · show Tr.eq t' u = some (if v = v0 then c else e v)
              by_cases q : v = v0
              · rw [if_pos q]
                rw [q] at ry
                cases relV_inj ry rt
                rw [At.inj I hy ht]
                exact e1
              · rw [if_neg q]
                rcases List.mem_cons.mp hv with z | z
                · exact absurd z q
                · exact ei v z y t' ry hy
end
section
variable {X : Cx}
def rEqT (K : PySem.W.Frag) : R2 := fun x y H Q => ∃ t u b, At K H x t ∧ At K H y u ∧ Tr.eq t u = some b ∧ t.dep ≤ 60 ∧ Q (.bl b) H
theorem op_eqT (hu : X.A.units + 64 < cLine) : OpR X (compareOp .Eq) (rEqT X.K) := by
  intro pins s σ H x y v u Q I rx ry h
  obtain ⟨t, t', b, hx, hy, e, d, q⟩ := h
  exact rcAt_T I t t' b e hx hy rx ry (by omega) X.prog X.w _ _ ⟨.bl b, H, I, rfl, q⟩
def rInT (K : PySem.W.Frag) : R2 := fun x y H Q => ∃ u ts b, At K H x u ∧ At K H y (.lst ts) ∧ Tr.anyEq ts u = some b ∧ Tr.deps ts ≤ 60 ∧ Q (.bl b) H
def rNotInT (K : PySem.W.Frag) : R2 := fun x y H Q => ∃ u ts b, At K H x u ∧ At K H y (.lst ts) ∧ Tr.anyEq ts u = some b ∧ Tr.deps ts ≤ 60 ∧ Q (.bl (!b)) H
theorem op_inT (hu : X.A.units + 65 < cLine) : OpR X (compareOp .In) (rInT X.K) := by
  intro pins s σ H x y v u Q I rx ry h
  obtain ⟨t, ts, b, hx, hy, e, d, q⟩ := h
  cases hy with
  | lst hl hs =>
    rename_i a xs
    cases (show u = Value.ref a from ry)
    obtain ⟨vs, r, p, _⟩ := I.list hl
    obtain ⟨f, hf, ef, _⟩ := in_T I hx rx (A := X.A.in1) e hs r (by show X.A.units + 1 + _ < cLine; omega)
    refine SeqAt.in_listAt f p.isList (fun y hy => hf y (by simpa using hy)) ?_
    rw [show vs.toArray.any f = b from by rw [← ef]; simp]
    exact ⟨.bl b, H, I, rfl, q⟩
theorem op_notInT (hu : X.A.units + 65 < cLine) : OpR X (compareOp .NotIn) (rNotInT X.K) := by
  intro pins s σ H x y v u Q I rx ry h
  obtain ⟨t, ts, b, hx, hy, e, d, q⟩ := h
  cases hy with
  | lst hl hs =>
    rename_i a xs
    cases (show u = Value.ref a from ry)
    obtain ⟨vs, r, p, _⟩ := I.list hl
    obtain ⟨f, hf, ef, _⟩ := in_T I hx rx (A := X.A.in1) e hs r (by show X.A.units + 1 + _ < cLine; omega)
    refine SeqAt.notIn_listAt f p.isList (fun y hy => hf y (by simpa using hy)) ?_
    rw [show vs.toArray.any f = b from by rw [← ef]; simp]
    exact ⟨.bl (!b), H, I, rfl, q⟩
end
end L2

set_option maxRecDepth 100000
set_option maxHeartbeats 4000000
/-! Of a thing's tree: its type; texts of no great length. -/
namespace L2
open PySem PySem.Spec PyProof.Rows
namespace Tr
mutual
def fine : Tr → Bool
  | .str z => decide (z.length ≤ 1000) && PyData.canLay0 (.str z)
  | .tup ts => decide (ts.length ≤ 1000) && fines ts
  | .lst ts => decide (ts.length ≤ 1000) && fines ts
  | _ => true
def fines : List Tr → Bool
  | [] => true
  | t :: ts => fine t && fines ts
end
theorem fines_all : ∀ {ts : List Tr}, fines ts = true → ∀ t ∈ ts, fine t = true
  | t :: ts, h, u, hu => by
    have h : (fine t && fines ts) = true := h
    rw [Bool.and_eq_true] at h
    rcases List.mem_cons.mp hu with e | e
    · rw [e]; exact h.1
    · exact fines_all h.2 u e
theorem fine_str {z : Str} (h : fine (.str z) = true) : z.length ≤ 1000 ∧ PyData.canLay0 (.str z) = true := by
  have h : (decide (z.length ≤ 1000) && PyData.canLay0 (.str z)) = true := by simpa [fine] using h
  rw [Bool.and_eq_true] at h
  exact ⟨of_decide_eq_true h.1, h.2⟩
theorem fine_tup {ts : List Tr} (h : fine (.tup ts) = true) : ts.length ≤ 1000 ∧ fines ts = true := by
  have h : (decide (ts.length ≤ 1000) && fines ts) = true := by simpa [fine] using h
  rw [Bool.and_eq_true] at h
  exact ⟨of_decide_eq_true h.1, h.2⟩
theorem fine_lst {ts : List Tr} (h : fine (.lst ts) = true) : ts.length ≤ 1000 ∧ fines ts = true := by
  have h : (decide (ts.length ≤ 1000) && fines ts) = true := by simpa [fine] using h
  rw [Bool.and_eq_true] at h
  exact ⟨of_decide_eq_true h.1, h.2⟩
theorem fines_of : ∀ {ts : List Tr}, (∀ t ∈ ts, fine t = true) → fines ts = true
  | [], _ => rfl
  | t :: ts, h => by
    show (fine t && fines ts) = true
    rw [h t (List.mem_cons_self ..), fines_of fun u hu => h u (List.mem_cons_of_mem _ hu)]
    rfl
/-- the texts, if all are -/
def strs? : List Tr → Option (List Str)
  | [] => some []
  | .str z :: l => (strs? l).map (z :: ·)
  | _ :: _ => none
theorem strs_map : ∀ ws : List Str, strs? (ws.map .str) = some ws
  | [] => rfl
  | w :: ws => by
    show (strs? (ws.map .str)).map (w :: ·) = _
    rw [strs_map ws]
    rfl
theorem strs_some : ∀ {ts : List Tr} {ws : List Str}, strs? ts = some ws → ts = ws.map .str
  | [], ws, h => by cases h; rfl
  | .str z :: l, ws, h => by
    have h : (strs? l).map (z :: ·) = some ws := h
    obtain ⟨u, hu, rfl⟩ := Option.map_eq_some_iff.mp h
    rw [strs_some hu]
    rfl
  | .non :: _, _, h => by cases h
  | .bl _ :: _, _, h => by cases h
  | .int _ :: _, _, h => by cases h
  | .dct :: _, _, h => by cases h
  | .tup _ :: _, _, h => by cases h
  | .lst _ :: _, _, h => by cases h
def wordT (t : Tr) (ws : List Str) : Bool := match t with
  | .str z => ws.contains z
  | _ => false
end Tr
section
variable {K : PySem.W.Frag} {H : Hp} {a : Addr} {xs : List V} {x : V} {t : Tr} {ts : List Tr}
theorem sqT_ty (h : SqT K H a xs) : TyX K H (.ref a) (.type "tuple") := by
  rcases h with (h | ⟨o, h⟩) | ⟨o, its, n, h1, h2, _⟩
  · exact .base (.tup h)
  · exact .fTuple h
  · exact .kTuple h1 h2
theorem sqL_ty (h : SqL K H a xs) : TyX K H (.ref a) (.type "list") := by
  rcases h with (h | ⟨o, h⟩) | ⟨o, its, n, h1, h2, _⟩
  · exact .base (.lst h)
  · exact .base (.frz h)
  · exact .kList h1 h2
/-- a type that is neither str nor .. -/
def Ty1 (t : Tr) : String := match t with
  | .non => "NoneType"
  | .bl _ => "bool"
  | .int _ => "int"
  | .str _ => "str"
  | .dct => "dict"
  | .tup _ => "tuple"
  | .lst _ => "list"
theorem At.ty (h : At K H x t) : TyX K H x (.type (Ty1 t)) := by
  cases h with
  | non => exact .base .non
  | bl => exact .base (.bl _)
  | int => exact .base (.int _)
  | str => exact .base (.str _)
  | dct h => exact .base (.dK h)
  | tup h _ => exact sqT_ty h
  | lst h _ => exact sqL_ty h
theorem kitS (K : PySem.W.Frag) : ∀ a ∈ ["NoneType", "bool", "int", "dict", "tuple", "list"], PySem.W.kitOne K (.type a) (.type "str") = some false := by
  intro a h
  simp only [List.mem_cons, List.not_mem_nil, or_false] at h
  rcases h with rfl | rfl | rfl | rfl | rfl | rfl <;> exact kit_ty (by decide +kernel)
theorem kitT (K : PySem.W.Frag) : ∀ a ∈ ["NoneType", "bool", "int", "dict", "str", "list"], PySem.W.kitOne K (.type a) (.type "tuple") = some false := by
  intro a h
  simp only [List.mem_cons, List.not_mem_nil, or_false] at h
  rcases h with rfl | rfl | rfl | rfl | rfl | rfl <;> exact kit_ty (by decide +kernel)
theorem noTup {t : Tr} (h : ∀ us, t ≠ .tup us) (K : PySem.W.Frag) : PySem.W.kitOne K (.type (Ty1 t)) (.type "tuple") = some false := by
  refine kitT K _ ?_
  cases t with
  | tup us => exact absurd rfl (h us)
  | _ => simp [Ty1]
theorem noStr {t : Tr} (h : ∀ z, t ≠ .str z) (K : PySem.W.Frag) : PySem.W.kitOne K (.type (Ty1 t)) (.type "str") = some false := by
  refine kitS K _ ?_
  cases t with
  | str us => exact absurd rfl (h us)
  | _ => simp [Ty1]
theorem At.noTx (h : At K H x t) (n : ∀ z, t ≠ .str z) : NoTx K H x := fun _ s => ⟨_, (h.same s).ty, noStr n K⟩
theorem Ats.mem : ∀ {xs : List V} {ts : List Tr}, Ats K H xs ts → ∀ x ∈ xs, ∃ t, t ∈ ts ∧ At K H x t
  | _, _, .nil, _, h => nomatch h
  | _, _, .cons h hs, y, hy => by
    rcases List.mem_cons.mp hy with e | e
    · rw [e]
      exact ⟨_, List.mem_cons_self .., h⟩
    · obtain ⟨t, h1, h2⟩ := hs.mem y e
      exact ⟨t, List.mem_cons_of_mem _ h1, h2⟩
theorem Ats.get : ∀ {xs : List V} {ts : List Tr}, Ats K H xs ts → ∀ {i : Nat} {x : V}, xs[i]? = some x → ∃ t, ts[i]? = some t ∧ At K H x t
  | _, _, .nil, i, _, h => by simp at h
  | _, _, .cons h hs, 0, x, e => by
    simp at e
    subst e
    exact ⟨_, rfl, h⟩
  | _, _, .cons h hs, i + 1, x, e => by
    obtain ⟨t, h1, h2⟩ := hs.get (i := i) (by simpa using e)
    exact ⟨t, by simpa using h1, h2⟩
theorem Ats.app : ∀ {xs : List V} {ts : List Tr} {ys : List V} {us : List Tr}, Ats K H xs ts → Ats K H ys us → Ats K H (xs ++ ys) (ts ++ us)
  | _, _, _, _, .nil, h => h
  | _, _, _, _, .cons h hs, k => .cons h (hs.app k)
theorem Ats.unapp : ∀ {ts : List Tr} {xs : List V} {us : List Tr}, Ats K H xs (ts ++ us) → ∃ ys zs, xs = ys ++ zs ∧ Ats K H ys ts ∧ Ats K H zs us
  | [], xs, us, h => ⟨[], xs, rfl, .nil, h⟩
  | t :: ts, _, us, .cons h hs => by
    obtain ⟨ys, zs, rfl, h1, h2⟩ := Ats.unapp hs
    exact ⟨_ :: ys, zs, rfl, .cons h h1, h2⟩
theorem Ats.strs : ∀ ws : List Str, Ats K H (ws.map V.str) (ws.map Tr.str)
  | [] => .nil
  | w :: ws => .cons .str (Ats.strs ws)
theorem Ats.unstrs : ∀ {ws : List Str} {xs : List V}, Ats K H xs (ws.map Tr.str) → xs = ws.map V.str
  | [], _, .nil => rfl
  | w :: ws, _, .cons h hs => by
    cases h
    rw [hs.unstrs]
    rfl
theorem Ats.told (h : Ats K H xs ts) (f : Tr.fines ts = true) : Told K H xs := fun x hx => by
  obtain ⟨t, ht, at_⟩ := h.mem x hx
  have ft := Tr.fines_all f t ht
  cases t with
  | str z =>
    cases at_
    exact .inl ⟨z, rfl, Tr.fine_str ft⟩
  | non => exact .inr (at_.noTx fun z e => (nomatch e))
  | bl b => exact .inr (at_.noTx fun z e => (nomatch e))
  | int i => exact .inr (at_.noTx fun z e => (nomatch e))
  | dct => exact .inr (at_.noTx fun z e => (nomatch e))
  | tup us => exact .inr (at_.noTx fun z e => (nomatch e))
  | lst us => exact .inr (at_.noTx fun z e => (nomatch e))
theorem Ats.txs : ∀ {xs : List V} {ts : List Tr}, Ats K H xs ts → txs? xs = Tr.strs? ts
  | _, _, .nil => rfl
  | _, _, .cons (t := t) h hs => by
    cases h with
    | str =>
      show (txs? _).map _ = (Tr.strs? _).map _
      rw [hs.txs]
    | _ => rfl
end
end L2

set_option maxRecDepth 100000
set_option maxHeartbeats 4000000
/-! A comprehension over zip of two tuples of one length; a tuple without its first, or its last item; x in a tuple of any items. -/
namespace RZ
open PySem PySem.Spec PyProof.Rows L2
theorem lc_zipT {K : PySem.W.Frag} {a b : Addr} {xs ys : List V} {g : TG} {tt : TT} {te : TE} {vs : List Nat} {σ : L2.St} {H1 : Hp} {D : Addr} {Qd : Hp → Prop} (hl : xs.length = ys.length) (Pv : Nat → Hp → Prop) (h0 : Pv 0 (upd H1 D (.lst [])))
    (hq : ∀ i H, Pv i H → SqT K H a xs ∧ SqT K H b ys)
    (hs : ∀ (i : Nat) (x y : V) (T : Addr) (H : Hp), xs[i]? = some x → ys[i]? = some y → Pv i H → H T = none → g (.ref T) (wipe σ vs) (upd H T (.tup [x, y])) fun σ2 H2 => wipe σ2 vs = wipe σ vs ∧ tt σ2 H2 fun c H3 =>
      if c = true then te σ2 H3 fun z H4 => ∃ acc, H4 D = some (.lst acc) ∧ acc.length < sizeLine ∧ Pv (i + 1) (upd H4 D (.lst (acc ++ [z]))) else Pv (i + 1) H3)
    (hd : ∀ H, Pv xs.length H → Qd H) :
    ∃ W : Nat → Nat → Hp → Prop, (∃ m, W 0 m (upd H1 D (.lst []))) ∧ ∀ i m H, W i m H →
      ((ItzT K a b).stop i H ∧ Qd H) ∨ ((ItzT K a b).go i H ∧ ∃ Nx : Hp → Prop, (∀ H', Nx H' → ∃ m', m' < m ∧ W (i + 1) m' H') ∧ ∀ x H', (ItzT K a b).yld i H x H' → g x (wipe σ vs) H' fun σ2 H2 => wipe σ2 vs = wipe σ vs ∧ tt σ2 H2 fun c H3 =>
        if c = true then te σ2 H3 fun z H4 => ∃ acc, H4 D = some (.lst acc) ∧ acc.length < sizeLine ∧ Nx (upd H4 D (.lst (acc ++ [z]))) else Nx H3) := by
  refine ⟨fun i m H => m + i = xs.length ∧ Pv i H, ⟨xs.length, Nat.add_zero _, h0⟩, fun i m H ⟨e, p⟩ => ?_⟩
  obtain ⟨qx, qy⟩ := hq i H p
  cases m with
  | zero =>
    have e' : i = xs.length := by omega
    subst e'
    exact .inl ⟨⟨xs, ys, qx, qy, .inl (Nat.le_refl _)⟩, hd H p⟩
  | succ m =>
    have l1 : i < xs.length := by omega
    have l2 : i < ys.length := by omega
    refine .inr ⟨⟨xs, ys, xs[i], ys[i], qx, qy, List.getElem?_eq_getElem l1, List.getElem?_eq_getElem l2⟩, Pv (i + 1), fun H' p' => ⟨m, Nat.lt_succ_self m, by omega, p'⟩, fun v H' y => ?_⟩
    obtain ⟨T, x', y', rfl, hT, rfl, f1, f2⟩ := y
    exact hs i x' y' T H (f1 xs qx) (f2 ys qy) p hT
theorem cut1 {x : V} {ys : List V} : cutV (x :: ys) (some 1) none = ys := by
  unfold cutV
  have e : HT.sIx (x :: ys).length 0 (some 1) = 1 := by
    show min 1 (x :: ys).length = 1
    rw [List.length_cons]
    omega
  rw [e]
  show (List.drop 1 (x :: ys)).take ((x :: ys).length - 1) = ys
  simp
theorem not1 {x : V} {ys : List V} {d : Option Int} : ¬ (HT.sIx (x :: ys).length 0 (some 1) = 0 ∧ HT.sIx (x :: ys).length (x :: ys).length d = (x :: ys).length) := fun h => by
  have e : HT.sIx (x :: ys).length 0 (some 1) = 1 := by
    show min 1 (x :: ys).length = 1
    rw [List.length_cons]
    omega
  rw [e] at h
  exact absurd h.1 (by decide)
theorem sxL {xs : List V} {z : V} : HT.sIx (xs ++ [z]).length (xs ++ [z]).length (some (-1)) = xs.length := by
  show ((-1 : Int) + ((xs ++ [z]).length : Int)).toNat = xs.length
  rw [List.length_append, List.length_singleton]
  omega
theorem cutL {xs : List V} {z : V} : cutV (xs ++ [z]) none (some (-1)) = xs := by
  unfold cutV
  rw [sxL]
  show (List.drop 0 (xs ++ [z])).take (xs.length - 0) = xs
  simp
theorem notL {xs : List V} {z : V} : ¬ (HT.sIx (xs ++ [z]).length 0 none = 0 ∧ HT.sIx (xs ++ [z]).length (xs ++ [z]).length (some (-1)) = (xs ++ [z]).length) := fun h => by
  rw [sxL, List.length_append, List.length_singleton] at h
  omega
theorem at0 {x : V} {ys : List V} : atI (x :: ys) 0 = some x := by
  unfold atI ixN
  rw [if_pos (by decide), if_pos (by rw [List.length_cons]; omega)]
  rfl
theorem atL {xs : List V} {z : V} : atI (xs ++ [z]) (-1) = some z := by
  unfold atI ixN
  rw [if_neg (by decide)]
  have e : ((xs ++ [z]).length : Int) = (xs.length : Int) + 1 := by simp
  rw [e, if_pos (by omega)]
  have e2 : ((-1 : Int) + ((xs.length : Int) + 1)).toNat = xs.length := by omega
  show (xs ++ [z])[((-1 : Int) + ((xs.length : Int) + 1)).toNat]? = some z
  rw [e2]
  simp
/-- x in a tuple, items of any depth -/
def rInDT (K : PySem.W.Frag) : R2 := fun x y H Q => ∃ d ds, Dp K H x d ∧ Dp K H y (.tuple ds) ∧ SeqAt.shaped d = true ∧ SeqAt.shaped (.tuple ds) = true ∧ Q (.bl (ds.any fun z => PyData.eqv z d)) H
theorem op_inDT {X : Cx} (hu : X.A.units + 65 < cLine) : OpR X (compareOp .In) (rInDT X.K) := by
  intro pins s σ H x y v u Q I rx ry h
  obtain ⟨d, ds, hd, he, sd, se, q⟩ := h
  obtain ⟨as, r1⟩ := Dp.reads I d x v hd rx
  obtain ⟨bs, r2⟩ := Dp.reads I (.tuple ds) y u he ry
  have lay : PyData.canLayAll0 ds = true := by
    have := SeqAt.canLay_of_shaped se
    unfold PyData.canLay0 at this
    exact this
  exact SeqAt.in_tuple_reads r2 r1 lay (SeqAt.canLay_of_shaped sd) (room_in_shaped sd hu) ⟨.bl _, H, I, rfl, q⟩
/-- d[k] of a written dict with text keys -/
theorem ix_kd {X : Cx} {d : Addr} {es : Array DictEntry} {n : Nat} (D : KDict X.K X.w d es n) :
    IxR X (fun x y H Q => ∃ (z : Str) (u0 : Value) (v0 : V), x = .ref d ∧ y = .str z ∧ PySem.W.nsIn X.K d z = some (some u0) ∧ RelV v0 u0 ∧ Q v0 H) := by
  intro value slice pins s σ H x y v u Q I rx ry h hs
  have g := op_item_kd D pins s σ H x y v u Q I rx ry h
  obtain ⟨z, u0, v0, rfl, _⟩ := h
  cases rx
  exact tail_any (kd_type D I) PySem.F.slot_dict_getitem.lookup g hs
end RZ

set_option maxRecDepth 100000
set_option maxHeartbeats 4000000
namespace K01
open PySem PySem.Spec PyProof.Rows L2 He VH RZ
/-! is a thing of any kind a statement -/
abbrev sIst : Stmt := top 11
abbrev FnIst (K : PySem.W.Frag) (fd : FuncData) : Prop := FnP K "is_statement" sIst (ga K "is_statement") fd
theorem bIst {K : PySem.W.Frag} {fd : FuncData} (F : FnIst K fd) : Binds K fd ["value"] [] := FunD.bindsN F fun _ _ _ _ _ _ us hl => match us, hl with | [_], _ => rfl
abbrev nIst : List Str := ["value", "places", "rest", "word", "words"]
theorem scIst : FnScope nIst ["value"] (defScope sIst) := ⟨rfl, rfl, rfl, by decide +kernel, rfl, by decide +kernel, by decide +kernel⟩
def plcs (w : Str) : List (List Str) := if w = "set" then [["keep", "input", "read"], ["keep", "none", "now", "read", "copy"]] else if w = "put" then [["none", "now", "read", "copy"]] else if w = "insert" then [["none", "now"]] else []
abbrev heads : List Str := ["set", "put", "insert", "delete"]
abbrev cks : List Str := ["missing", "same old", "same new"]
theorem Txt.pl {K : PySem.W.Frag} {mg : Str → Option Value} {w : World} (T : Txt K mg w) {x : Str} (h : x ∈ heads) : Ent K "PLACES" x (plcs x) := by
  simp only [heads, List.mem_cons, List.not_mem_nil, or_false] at h
  rcases h with rfl | rfl | rfl | rfl
  · exact T.d_PLACES_set
  · exact T.d_PLACES_put
  · exact T.d_PLACES_insert
  · exact T.d_PLACES_delete
def wdsT (ts : List Tr) (ws : List Str) : Bool := match Tr.strs? ts with
  | some cs => wdsOk cs ws
  | none => false
def midT (ts : List Tr) (ps : List (List Str)) : Bool := decide (ts.length = ps.length) && (ts.zip ps).all fun q => Tr.wordT q.1 q.2
/-- what stands behind the first word is right -/
def restT (w : Str) (ts : List Tr) : Bool := if w = "insert" then midT ts (plcs w) else match ts.getLast? with
  | some (.tup cs) => wdsT cs cks && midT ts.dropLast (plcs w)
  | _ => false
def isSt : Tr → Bool
  | .tup (.str w :: t :: ts) => heads.contains w && restT w (t :: ts)
  | _ => false
/-- it is one, or none -/
def IsSt (K : PySem.W.Frag) (H : Hp) (x : V) (r : Bool) : Prop := ∃ t, At K H x t ∧ t.fine = true ∧ isSt t = r
def spIst (K : PySem.W.Frag) : Sp := fun vs H Q _ => ∃ (x : V) (r : Bool), vs = [x] ∧ IsSt K H x r ∧ ∀ H', Same H H' → Q (.bl r) H'
section
variable {P : Program} {w : World} {K : PySem.W.Frag} {mg : Str → Option Value} {base : Heap} {f : Addr} {fd fdI fdW fdS : FuncData}
theorem ok_ist (F : FnP K "is_statement" sIst f fd) (T : Txt K mg w) (FW : FnWrd K fdW) (FS : FnWds K fdS) : FnOk P w K mg base CX0 3 f fd ["value"] (spIst K) := by
  have GW : FnOk P w K mg base CX0 1 (ga K "is_word") fdW ["value", "words"] (spWrd K) := ok_wrd FW T
  have GS : FnOk P w K mg base CX0 2 (ga K "are_words") fdS ["values", "words"] (spWds K) := ok_wds FS T FW
  obtain ⟨es, en, KD⟩ := T.dict_PLACES
  refine F.ok scIst (fun vs H Q E h => ?_) (fun cdv A outer s H vs Q E hr h => ?_)
  · obtain ⟨x, r, rfl, _⟩ := h
    rfl
  have r1 : Room 1 _ := hr.mono (by decide)
  refine ⟨_, PSs.nox (pss_cons (ps_if (PW.pt (pw_or (pt_not (pt_val (pe_callB call_isi (by rfl) T.g_isinstance boot_isinstance (pa_cons (pv 0) (pa_cons (pe_bltn (v := .ty "tuple") (by rfl) T.g_tuple boot_tuple rfl) pa_nil))))) (pw_or (pt_cmpR op_lt (pe_callB call_len_seq (by rfl) T.g_len boot_len (pa_cons (pv 0) pa_nil)) pe_int (nomark _)) (pw_or1 (pt_not (pt_val (pe_callB call_isi (by rfl) T.g_isinstance boot_isinstance (pa_cons (pe_ix ix_tup (pv 0) pe_int (fun _ _ => rfl)) (pa_cons (pe_bltn (v := .ty "str") (by rfl) T.g_str boot_str rfl) pa_nil))))))))) (pss_one (ps_ret pe_bl)) pss_nil)
     (pss_cons (ps_if (pt_cmpR (op_notIn_kd KD) (pe_ix ix_tup (pv 0) pe_int (fun _ _ => rfl)) (pe_glob (v := .ref (ga K "PLACES")) (by rfl) T.m_PLACES rfl) (by rfl)) (pss_one (ps_ret pe_bl)) pss_nil)
     (pss_cons (ps_set (i := 1) scIst.nd rfl (Or.inl rfl) (pe_ix (ix_kd KD) (pe_glob (v := .ref (ga K "PLACES")) (by rfl) T.m_PLACES rfl) (pe_ix ix_tup (pv 0) pe_int (fun _ _ => rfl)) (fun _ _ => rfl)))
     (pss_cons (ps_set (i := 2) scIst.nd rfl (Or.inl rfl) (pe_slice sl_tup (pv 0) (po_some pe_int) po_none))
     (pss_cons (ps_if (pt_cmpR op_ne (pe_ix ix_tup (pv 0) pe_int (fun _ _ => rfl)) pe_str (nomark _)) (pss_cons (ps_if (PW.pt (pw_or (pt_not (pt_val (pe_callB call_isi (by rfl) T.g_isinstance boot_isinstance (pa_cons (pe_ix ix_tup (pv 2) (pe_un un_neg pe_int) (fun _ _ => rfl)) (pa_cons (pe_bltn (v := .ty "tuple") (by rfl) T.g_tuple boot_tuple rfl) pa_nil))))) (pw_or1 (pt_not (pt_val (pe_call GS hr (by rfl) T.m_are_words FS.kp (bWds FS) .nil pass0 (pa_cons (pe_ix ix_tup (pv 2) (pe_un un_neg pe_int) (fun _ _ => rfl)) (pa_cons (pe_glob (v := .ref (ga K "CHECKS")) (by rfl) T.m_CHECKS rfl) pa_nil)))))))) (pss_one (ps_ret pe_bl)) pss_nil) (pss_one (ps_set (i := 2) scIst.nd rfl (Or.inl rfl) (pe_slice sl_tup (pv 2) po_none (po_some (pe_un un_neg pe_int)))))) pss_nil)
     (pss_one (ps_ret (pe_and (pe_cmpR op_eq (pe_callB call_len_seq (by rfl) T.g_len boot_len (pa_cons (pv 2) pa_nil)) (pe_callB call_len_seq (by rfl) T.g_len boot_len (pa_cons (pv 1) pa_nil)) (nomark _)) (pe_one (pe_callB (cr_all rfl) (by rfl) T.g_all boot_all (pa_cons (pe_lc (own := [("word", 3), ("words", 4)]) (g := gTup K 2 (gCons (gName 3) (gCons (gName 4) gNil))) (tt := tYes) rfl scIst.nd (pi_zipA (by rfl) T.g_zip (pa_cons (pv 2) (pa_cons (pv 1) pa_nil))) (blkOk_by (N := nIst) (sc := defScope sIst) (by decide +kernel)) (fun _ _ _ _ _ => by exact pg_tup rfl (pgs_cons (pg_name (i := 3) scIst.nd rfl (Or.inl rfl)) (pgs_cons (pg_name (i := 4) scIst.nd rfl (Or.inl rfl)) pgs_nil))) (fun _ _ _ _ _ => pts_nil) (fun _ _ _ _ _ => pe_call GW r1 (by rfl) T.m_is_word FW.kp (bWrd FW) .nil pass0 (pa_cons (pv 3) (pa_cons (pv 4) pa_nil)))) pa_nil))))))))))), ?_⟩
  obtain ⟨x, _, rfl, ⟨t, hx, fx, rfl⟩, k⟩ := h
  -- no tuple
  by_cases nt : ∃ us, t = .tup us
  case neg =>
    have e : isSt t = false := by
      unfold isSt
      split
      · exact absurd ⟨_, rfl⟩ nt
      · rfl
    rw [e] at k
    exact ⟨_, rfl, _, _, _, _, false, rfl, .ty "tuple", hx.ty, noTup (fun us e => nt ⟨us, e⟩) _, false, rfl, iteT (k H (Same.refl H))⟩
  obtain ⟨ts, rfl⟩ := nt
  obtain ⟨ln, fs⟩ := Tr.fine_tup fx
  cases hx with
  | tup h hs =>
    rename_i p xs
    have lx := hs.len
    have ty := sqT_ty h
    have kk : PySem.W.kitOne K (.type "tuple") (.type "tuple") = some true := kit_ty (by decide +kernel)
    refine ⟨_, rfl, _, _, _, _, true, rfl, .ty "tuple", ty, kk, true, rfl, iteF ?_⟩
    refine ⟨_, rfl, _, _, rfl, .inr h, _, _, rfl, rfl, _, rfl, ?_⟩
    -- too short
    by_cases sh : ts.length < 2
    case pos =>
      have e : isSt (.tup ts) = false := by
        match ts, sh with
        | [], _ => rfl
        | [t], _ => cases t <;> rfl
      rw [e] at k
      rw [decide_eq_true (by omega)]
      exact iteT (k H (Same.refl H))
    rw [decide_eq_false (by omega)]
    obtain ⟨t0, t1, tr, rfl⟩ : ∃ t0 t1 tr, ts = t0 :: t1 :: tr := by
      match ts, sh with
      | t0 :: t1 :: tr, _ => exact ⟨t0, t1, tr, rfl⟩
      | [t], h => exact absurd (show 1 < 2 by decide) h
      | [], h => exact absurd (show 0 < 2 by decide) h
    obtain ⟨x0, xr, rfl, hx0, hr0⟩ : ∃ x0 xr, xs = x0 :: xr ∧ At K H x0 t0 ∧ Ats K H xr (t1 :: tr) := by
      cases hs with
      | cons a b => exact ⟨_, _, rfl, a, b⟩
    have f0 : t0.fine = true := Tr.fines_all fs _ (List.mem_cons_self ..)
    have fr : Tr.fines (t1 :: tr) = true := Tr.fines_of fun u hu => Tr.fines_all fs u (List.mem_cons_of_mem _ hu)
    have ltr : (t1 :: tr).length ≤ 1000 := by
      simp only [List.length_cons] at ln ⊢
      omega
    -- the first is no text
    by_cases n0 : ∃ z, t0 = .str z
    case neg =>
      have e : isSt (.tup (t0 :: t1 :: tr)) = false := by
        unfold isSt
        split
        · rename_i e
          cases e
          exact absurd ⟨_, rfl⟩ n0
        · rfl
      rw [e] at k
      exact iteF ⟨_, rfl, _, _, _, _, rfl, rfl, h, at0, _, _, _, _, false, rfl, .ty "str", hx0.ty, noStr (fun z e => n0 ⟨z, e⟩) _, false, rfl, iteT (k H (Same.refl H))⟩
    obtain ⟨z, rfl⟩ := n0
    obtain rfl : x0 = .str z := by cases hx0; rfl
    have ek : isSt (.tup (.str z :: t1 :: tr)) = (heads.contains z && restT z (t1 :: tr)) := rfl
    rw [ek] at k
    refine iteF ⟨_, rfl, _, _, _, _, rfl, rfl, h, at0, _, _, _, _, true, rfl, .ty "str", .base (.str _), kit_ty (by decide +kernel), true, rfl, iteF ?_⟩
    -- no such word
    by_cases hw : z ∈ heads
    case neg =>
      have hc : heads.contains z = false := by
        cases hc : heads.contains z with
        | true => exact absurd (List.contains_iff_mem.mp hc) hw
        | false => rfl
      rw [hc] at k
      exact ⟨_, rfl, _, _, _, _, rfl, rfl, h, at0, _, _, rfl, rfl, T.ks_PLACES z hc, _, rfl, iteT (k H (Same.refl H))⟩
    rw [List.contains_iff_mem.mpr hw, Bool.true_and] at k
    obtain ⟨pp, ps, e1, e2, e3, e4⟩ := T.pl (x := z) hw
    refine ⟨_, rfl, _, _, _, _, rfl, rfl, h, at0, _, _, rfl, rfl, e1, _, rfl, iteF ?_⟩
    refine ⟨_, rfl, _, _, _, _, rfl, rfl, h, at0, _, _, .ref pp, rfl, rfl, e1, rfl, ?_⟩
    refine ⟨_, rfl, _, rfl, _, _, rfl, h, not1, fun rr nr => ?_⟩
    rw [cut1]
    have sG := Same.new (o := .tup xr) nr
    have lxr := hr0.len
    have hG : upd H rr (.tup xr) rr = some (.tup xr) := upd_same
    have hzs := hr0.same sG
    have h' := sqT_same' sG h
    generalize upd H rr (.tup xr) = G at sG hG hzs h' ⊢
    refine ⟨_, rfl, _, _, _, _, rfl, rfl, h', at0, rfl, _, rfl, ?_⟩
    have lz := ltr
    by_cases wi : z = "insert"
    · subst wi
      have kk : ∀ H', Same G H' → Q (.bl (midT (t1 :: tr) (plcs "insert"))) H' := fun H' s => by
        have := k H' (sG.trans s)
        unfold restT at this
        rw [if_pos rfl] at this
        exact this
      refine iteF ?_
      obtain ⟨us, eus⟩ : ∃ us, us = t1 :: tr := ⟨_, rfl⟩
      obtain ⟨zs, ezs⟩ : ∃ zs, zs = xr := ⟨_, rfl⟩
      rw [← eus] at kk hzs lz lxr
      rw [← ezs] at hzs hG lxr
      have lus := lxr
      clear hr0 h h' hs k
      refine ⟨_, rfl, rr, _, rfl, .inr (SqT.of hG), _, rfl, pp, _, rfl, .inr (e2 _), rfl, _, rfl, ?_⟩
      by_cases ll : us.length = (plcs "insert").length
      case neg =>
        have em : midT us (plcs "insert") = false := by
          unfold midT
          rw [decide_eq_false ll]
          rfl
        rw [em] at kk
        rw [decide_eq_false (fun e => ll (by
          have := V.int.inj e
          rw [List.length_map, e3] at this
          omega))]
        exact iteF (kk G (Same.refl G))
      have em : midT us (plcs "insert") = (us.zip (plcs "insert")).all fun q => Tr.wordT q.1 q.2 := by
        unfold midT
        rw [decide_eq_true ll]
        rfl
      rw [em] at kk
      rw [decide_eq_true (by rw [List.length_map, e3, lus, ll])]
      refine iteT ?_
      refine ⟨_, rfl, _, rfl, rr, pp, _, _, rfl, .inr ⟨SqT.of hG, e2 _, fun D nD => ?_⟩⟩
      refine lc_zipT (K := K) (xs := zs) (ys := ps.map V.ref) (by rw [List.length_map, e3, lus, ll]) (fun i G' => Same G G' ∧ G' D = some (.lst (((us.zip (plcs "insert")).take i).map fun q => V.bl (Tr.wordT q.1 q.2)))) ⟨Same.new nD, upd_same⟩
        (fun i G' g => ⟨SqT.of (g.1 _ _ hG), e2 _⟩) (fun i x y T G' hx hy g nT => ?_) (fun G' g => ?_)
      · obtain ⟨s2, h2⟩ := g
        rw [List.getElem?_map] at hy
        obtain ⟨pi, hpi, rfl⟩ := Option.map_eq_some_iff.mp hy
        obtain ⟨t, ht, at_⟩ := hzs.get hx
        have li := (List.getElem?_eq_some_iff.mp ht).1
        have hw2 : (plcs "insert")[i]? = some (plcs "insert")[i] := List.getElem?_eq_getElem (by omega)
        have hz : (us.zip (plcs "insert"))[i]? = some (t, (plcs "insert")[i]) := by
          rw [List.getElem?_zip_eq_some]
          exact ⟨ht, hw2⟩
        have s3 := s2.trans (Same.new (o := .tup [x, .ref pi]) nT)
        have fin : ∀ b : Bool, b = Tr.wordT t (plcs "insert")[i] → ∃ acc, upd G' T (.tup [x, .ref pi]) D = some (.lst acc) ∧ acc.length < sizeLine ∧ Same G (upd (upd G' T (.tup [x, .ref pi])) D (.lst (acc ++ [.bl b]))) ∧ upd (upd G' T (.tup [x, .ref pi])) D (.lst (acc ++ [.bl b])) D = some (.lst (((us.zip (plcs "insert")).take (i + 1)).map fun q => V.bl (Tr.wordT q.1 q.2))) := fun b e => by
          refine ⟨_, (Same.new (o := .tup [x, .ref pi]) nT) _ _ h2, ?_, same_put s3 nD, ?_⟩
          · rw [List.length_map, List.length_take, List.length_zip]
            have : 1000 < sizeLine := by decide
            omega
          · rw [List.take_succ, hz, e]
            simp only [Option.toList, List.map_append]
            exact upd_same
        refine ⟨T, _, rfl, SqT.of upd_same, rfl, _, _, rfl, _, _, rfl, rfl, rfl, ?_⟩
        refine ⟨_, rfl, _, rfl, _, pi, _, rfl, e4 i pi _ hpi hw2 _, ?_⟩
        by_cases ns : ∃ z, t = .str z
        · obtain ⟨z, rfl⟩ := ns
          cases at_
          exact .inl ⟨z, rfl, fin _ rfl⟩
        · refine .inr ⟨(at_.same s3).noTx fun z e => ns ⟨z, e⟩, fin _ ?_⟩
          unfold Tr.wordT
          split
          · exact absurd ⟨_, rfl⟩ ns
          · rfl
      · obtain ⟨s2, h2⟩ := g
        have full : (us.zip (plcs "insert")).take zs.length = us.zip (plcs "insert") := by
          apply List.take_of_length_le
          rw [List.length_zip]
          omega
        rw [full] at h2
        refine ⟨D, (us.zip (plcs "insert")).map (fun q => Tr.wordT q.1 q.2), rfl, SqL.of (by rw [List.map_map]; exact h2), ?_⟩
        rw [List.all_map]
        exact kk G' s2
    · rw [show (!decide (V.str z = V.str "insert")) = true by simp [wi]]
      -- the last one
      obtain ⟨us, tl, eul⟩ : ∃ us tl, t1 :: tr = us ++ [tl] := ⟨(t1 :: tr).dropLast, (t1 :: tr).getLast (by simp), (List.dropLast_concat_getLast (by simp)).symm⟩
      rw [eul] at hzs
      have fr' := fr
      rw [eul] at fr'
      obtain ⟨zs, ls, ezs, hz1, hz2⟩ := hzs.unapp
      obtain ⟨xl, rfl, hl⟩ : ∃ xl, ls = [xl] ∧ At K G xl tl := by
        cases hz2 with
        | cons a b =>
          cases b
          exact ⟨_, rfl, a⟩
      rw [ezs] at hG
      have ftl : tl.fine = true := Tr.fines_all fr' _ (by simp)
      have kr : ∀ b : Bool, b = restT z (t1 :: tr) → ∀ H', Same G H' → Q (.bl b) H' := fun b e H' s => by
        rw [e]
        exact k H' (sG.trans s)
      have er : restT z (t1 :: tr) = (match some tl with | some (.tup cs) => wdsT cs cks && midT us (plcs z) | _ => false) := by
        unfold restT
        rw [if_neg wi, eul, List.getLast?_append, List.dropLast_concat]
        rfl
      rw [er] at kr
      refine iteT ⟨_, rfl, 1, rfl, _, _, _, _, rfl, rfl, SqT.of hG, atL, ?_⟩
      by_cases ntl : ∃ cs, tl = .tup cs
      case neg =>
        refine ⟨_, _, _, _, false, rfl, .ty "tuple", hl.ty, noTup (fun us e => ntl ⟨us, e⟩) _, false, rfl, iteT (kr false ?_ G (Same.refl G))⟩
        split
        · rename_i e
          cases e
          exact absurd ⟨_, rfl⟩ ntl
        · rfl
      obtain ⟨cs, rfl⟩ := ntl
      obtain ⟨lcs, fcs⟩ := Tr.fine_tup ftl
      cases hl with
      | tup hq hqs =>
        rename_i q ys
        refine ⟨_, _, _, _, true, rfl, .ty "tuple", sqT_ty hq, kit_ty (by decide +kernel), true, rfl, iteF ?_⟩
        refine ⟨_, rfl, 1, rfl, _, _, _, _, rfl, rfl, SqT.of hG, atL, q, _, ys, cks, rfl, .inr hq, hqs.told fcs, by rw [hqs.len]; exact lcs, T.t_CHECKS, by decide, by decide +kernel, fun G2 S2 => ?_⟩
        have ew : wdsB ys cks = wdsT cs cks := by
          unfold wdsB wdsT
          rw [hqs.txs]
          try (cases Tr.strs? cs <;> rfl)
        rw [ew]
        have kr : ∀ b : Bool, b = (wdsT cs cks && midT us (plcs z)) → ∀ H', Same G H' → Q (.bl b) H' := kr
        cases ok : wdsT cs cks with
        | false =>
          rw [ok] at kr
          exact ⟨false, rfl, iteT (kr false rfl G2 S2)⟩
        | true =>
          rw [ok, Bool.true_and] at kr
          refine ⟨true, rfl, iteF ?_⟩
          refine ⟨_, rfl, 1, rfl, _, rfl, _, _, rfl, SqT.of (S2 _ _ hG), notL, fun r2 nr2 => ?_⟩
          rw [cutL]
          have S3 := S2.trans (Same.new (o := .tup zs) nr2)
          have hG3 : upd G2 r2 (.tup zs) r2 = some (.tup zs) := upd_same
          have hzs := hz1.same S3
          have lus := hz1.len
          have kk : ∀ H', Same (upd G2 r2 (.tup zs)) H' → Q (.bl (midT us (plcs z))) H' := fun H' s => kr _ rfl H' (S3.trans s)
          have lz : us.length ≤ 1000 := by
            have := congrArg List.length eul
            rw [List.length_append] at this
            omega
          clear kr k hz1 hz2 hq hqs hG
          generalize upd G2 r2 (.tup zs) = G at hG3 hzs kk ⊢
          have hG := hG3
          obtain ⟨rr, err⟩ : ∃ rr, rr = r2 := ⟨_, rfl⟩
          rw [← err] at hG ⊢
          refine ⟨_, rfl, rr, _, rfl, .inr (SqT.of hG), _, rfl, pp, _, rfl, .inr (e2 _), rfl, _, rfl, ?_⟩
          by_cases ll : us.length = (plcs z).length
          case neg =>
            have em : midT us (plcs z) = false := by
              unfold midT
              rw [decide_eq_false ll]
              rfl
            rw [em] at kk
            rw [decide_eq_false (fun e => ll (by
              have := V.int.inj e
              rw [List.length_map, e3] at this
              omega))]
            exact iteF (kk G (Same.refl G))
          have em : midT us (plcs z) = (us.zip (plcs z)).all fun q => Tr.wordT q.1 q.2 := by
            unfold midT
            rw [decide_eq_true ll]
            rfl
          rw [em] at kk
          rw [decide_eq_true (by rw [List.length_map, e3, lus, ll])]
          refine iteT ?_
          refine ⟨_, rfl, _, rfl, rr, pp, _, _, rfl, .inr ⟨SqT.of hG, e2 _, fun D nD => ?_⟩⟩
          refine lc_zipT (K := K) (xs := zs) (ys := ps.map V.ref) (by rw [List.length_map, e3, lus, ll]) (fun i G' => Same G G' ∧ G' D = some (.lst (((us.zip (plcs z)).take i).map fun q => V.bl (Tr.wordT q.1 q.2)))) ⟨Same.new nD, upd_same⟩
            (fun i G' g => ⟨SqT.of (g.1 _ _ hG), e2 _⟩) (fun i x y T G' hx hy g nT => ?_) (fun G' g => ?_)
          · obtain ⟨s2, h2⟩ := g
            rw [List.getElem?_map] at hy
            obtain ⟨pi, hpi, rfl⟩ := Option.map_eq_some_iff.mp hy
            obtain ⟨t, ht, at_⟩ := hzs.get hx
            have li := (List.getElem?_eq_some_iff.mp ht).1
            have hw2 : (plcs z)[i]? = some (plcs z)[i] := List.getElem?_eq_getElem (by omega)
            have hz : (us.zip (plcs z))[i]? = some (t, (plcs z)[i]) := by
              rw [List.getElem?_zip_eq_some]
              exact ⟨ht, hw2⟩
            have s3 := s2.trans (Same.new (o := .tup [x, .ref pi]) nT)
            have fin : ∀ b : Bool, b = Tr.wordT t (plcs z)[i] → ∃ acc, upd G' T (.tup [x, .ref pi]) D = some (.lst acc) ∧ acc.length < sizeLine ∧ Same G (upd (upd G' T (.tup [x, .ref pi])) D (.lst (acc ++ [.bl b]))) ∧ upd (upd G' T (.tup [x, .ref pi])) D (.lst (acc ++ [.bl b])) D = some (.lst (((us.zip (plcs z)).take (i + 1)).map fun q => V.bl (Tr.wordT q.1 q.2))) := fun b e => by
              refine ⟨_, (Same.new (o := .tup [x, .ref pi]) nT) _ _ h2, ?_, same_put s3 nD, ?_⟩
              · rw [List.length_map, List.length_take, List.length_zip]
                have : 1000 < sizeLine := by decide
                omega
              · rw [List.take_succ, hz, e]
                simp only [Option.toList, List.map_append]
                exact upd_same
            refine ⟨T, _, rfl, SqT.of upd_same, rfl, _, _, rfl, _, _, rfl, rfl, rfl, ?_⟩
            refine ⟨_, rfl, _, rfl, _, pi, _, rfl, e4 i pi _ hpi hw2 _, ?_⟩
            by_cases ns : ∃ z, t = .str z
            · obtain ⟨z, rfl⟩ := ns
              cases at_
              exact .inl ⟨z, rfl, fin _ rfl⟩
            · refine .inr ⟨(at_.same s3).noTx fun z e => ns ⟨z, e⟩, fin _ ?_⟩
              unfold Tr.wordT
              split
              · exact absurd ⟨_, rfl⟩ ns
              · rfl
          · obtain ⟨s2, h2⟩ := g
            have full : (us.zip (plcs z)).take zs.length = us.zip (plcs z) := by
              apply List.take_of_length_le
              rw [List.length_zip]
              omega
            rw [full] at h2
            refine ⟨D, (us.zip (plcs z)).map (fun q => Tr.wordT q.1 q.2), rfl, SqL.of (by rw [List.map_map]; exact h2), ?_⟩
            rw [List.all_map]
            exact kk G' s2
end
end K01

set_option maxRecDepth 100000
set_option maxHeartbeats 4000000
/-! raise C() of an own exception class whose __init__ takes nothing and sets nothing. -/
namespace L2
open PySem PySem.Spec PyProof.Rows
section
variable {X : Cx} {pins : List (Addr × Obj)} {σ : St}
theorem mk_none {H1 H2 : Hp} {Q : XK} {hp hp2 h2 : Heap} {g1 g2 : Array GenState} {d1 d2 : Drawn} {t1 t2 : Nat} {os1 os2 : OsState} {a C : Addr} (T : Raises X (.ref C)) (I1 : Inv X pins σ H1 ⟨hp, g1, d1, t1, os1⟩)
    (ha : hp.objs.size ≤ a) (k : ∀ b o, hp.get? b = some o → hp2.get? b = some o) (un : Un (frs X.stack) [] (upd H1 a (exo a C none)) H2 hp2 h2) (hok : HOk X.prog X.w H2 h2) (ho : os2 = os1) (hb : AllBare g2)
    (ea : H2 a = some (exo a C none)) (q : Q (.ref C) none (del H2 a)) : MkP X pins σ Q (.ref a) ⟨h2, g2, d2, t2, os2⟩ := by
  obtain ⟨t0, at_a⟩ := exo_at hok ea
  have new : H1 a = none := I1.hok.fresh ha
  obtain ⟨G, keepG, outG⟩ := restrict h2 fun b => decide (b ≠ a)
  have same : ∀ b, b ≠ a → G.get? b = h2.get? b := fun b n => keepG b (decide_eq_true n)
  have gone : G.get? a = none := outG a (by simp)
  have old : ∀ {b : Addr} {o : Obj}, hp.get? b = some o → b ≠ a := fun {b o} z => Nat.ne_of_lt (Nat.lt_of_lt_of_le (Heap.lt_size z) ha)
  have un1 : ∀ {b : Addr}, b ≠ a → H1 b = none → upd H1 a (exo a C none) b = none := fun {b} n z => (upd_ne n).trans z
  have U : Un (frs X.stack) [] H1 (del H2 a) hp G :=
    ⟨fun b o z n f x => (same b (old z)).trans (un.keep b o (k b o z) (un1 (old z) n) f x),
     fun b o z n f x => by
      obtain ⟨sl, e⟩ := un.slot b o (k b o z) (un1 (old z) n) f x
      exact ⟨sl, (same b (old z)).trans e⟩,
     fun b o z n x => (del_ne (old z)).trans (un.free b o (k b o z) (un1 (old z) n) x),
     fun b o z x => by
      obtain ⟨o', e⟩ := un.there b o (k b o z) x
      exact ⟨o', (same b (old z)).trans e⟩,
     fun b xs z => (del_ne (ne_of_none z new)).trans (un.tups b xs ((upd_ne (ne_of_none z new)).trans z)),
     fun b o v z => (del_ne (ne_of_none z new)).trans (un.frzs b o v ((upd_ne (ne_of_none z new)).trans z)),
     fun b ps z => by
      obtain ⟨more, e⟩ := un.tbls b ps ((upd_ne (ne_of_none z new)).trans z)
      exact ⟨more, (del_ne (ne_of_none z new)).trans e⟩⟩
  have okG : HOk X.prog X.w (del H2 a) G := fun b o z => by
    have n : b ≠ a := fun e => by
      rw [e, del_same] at z
      cases z
    rw [del_ne n] at z
    have noa : ∀ {c : Addr}, H2 c = some (.own b) → c ≠ a := fun {c} hc => at_ne ea hc exo_own
    exact (hok b o z).stay (fun c v hc y => (same c (hc.elim (fun e => e ▸ n) noa)).trans y) (fun c hc => (del_ne (noa hc)).trans hc) (fun c xs hc => (del_ne (at_ne ea hc exo_tup)).trans hc)
  have J : Inv X pins σ (del H2 a) ⟨G, g2, d2, t2, os2⟩ := I1.call' (ch := []) ho U okG hb (fun b z => absurd z (by simp))
  refine ⟨a, _, _, ⟨G, g2, d2, t2, os2⟩, _, .ref C, none, rfl, J, fun b o z => ?_, gone, at_a, ⟨rfl, rfl⟩, rfl, rfl, del_same, rfl, hb, T, q⟩
  by_cases n : b = a
  · rw [n, gone] at z
    cases z
  · exact (same b n).symm.trans z
/-- C() -/
def tMkN (C : Addr) (sp : Sp) : St → Hp → XK → Prop := fun _ H Q => ∀ a, H a = none → sp [.ref a] (upd H a (exo a C none)) (fun v H2 => v = .non ∧ H2 a = some (exo a C none) ∧ Q (.ref C) none (del H2 a)) fun _ _ _ => False
theorem pmk_oexN {CX : CXT} {x : Str} {C fI : Addr} {k : Nat} {fd : FuncData} {sp : Sp} {p pos : Pos} {s0 : Str} (T : OexC X.K C) (iC : PySem.W.findIn X.K (.ref C) "__init__" = some (some (.ref fI))) (tI : PySem.W.typeIn X.K (.ref fI) = some (.type "function"))
    (F1 : FnOk X.prog X.w X.K X.mg X.base CX k fI fd [s0] sp) (hr : Room (k + 1) X.A) (hb : Binds X.K fd [s0] []) (hx : Passes CX X (fun _ _ _ => False)) (hg : Gl X x) (hm : X.mg x = some (.ref C))
    (hdb : (x == ("__debug__" : Str)) = false := by decide) : PMk X (.Call (.Name x p) [] [] pos) (tMkN C sp) := by
  intro pins s σ H Q I h
  obtain ⟨nm, q, N, bs, bm, sn, sub, ab, col, dd, k0, k1, k2, k3, k5, hC, hbm⟩ := T.cls
  refine wpAny_Call_Name_kw (ld_glob I hg hm ?_ hdb)
  refine PySem.W.callWith_K0 I.kIn T.kC ?_
  show wpAny _ _ (call (.ref C) []) _ _ _
  obtain ⟨hp, g, dr, tk, os⟩ := s
  have up1 : hp.objs.size ≤ hp.objs.size + 1 := Nat.le_succ _
  have hq := h (hp.objs.size + 1) (I.hok.fresh up1)
  have kk : ∀ b o, hp.get? b = some o → ((hp.push (PySem.W.kdv_tup [])).push (PySem.HandSPX.excO C hp.objs.size)).get? b = some o := fun b o e => Heap.get?_push_of_some _ (Heap.get?_push_of_some _ e)
  have hget : ((hp.push (PySem.W.kdv_tup [])).push (PySem.HandSPX.excO C hp.objs.size)).get? (hp.objs.size + 1) = some (PySem.HandSPX.excO C hp.objs.size) := by heap_get
  have I2 : Inv X pins σ (upd H (hp.objs.size + 1) (exo (hp.objs.size + 1) C none)) ⟨(hp.push (PySem.W.kdv_tup [])).push (PySem.HandSPX.excO C hp.objs.size), g, dr, tk, os⟩ := I.laid (t' := tk) kk up1 (exo_ok hget)
  refine wpAny_call (PySem.HandSPX.call_own F.excBase_ValueError (fun Y => PySem.HandSPX.refsVE_contains Y bm hbm) (I.kIn _ _ hC) (PySem.W.looks_findIn I.kIn iC) (fun self => PySem.W.bind_fn I.kIn self tI) (Nat.zero_le _)
    (codeAny_mono (F1.run _ X.stack _ _ ⟨[Value.ref (hp.objs.size + 1)], []⟩ [Value.ref (hp.objs.size + 1)] _ _ (fun _ _ _ => False) (hr.make C [] []) (I2.env0.make C [] []) (hb _ [Value.ref (hp.objs.size + 1)] I2.kIn rfl) (show Vals [V.ref (hp.objs.size + 1)] [Value.ref (hp.objs.size + 1)] from .cons rfl .nil) hq) fun r s' hq' => ?_))
  cases r with
  | error er => exact hx pins σ _ _ er s' I2 hq'
  | ok fl =>
    cases fl with
    | ret u =>
      obtain ⟨v, H2, os2, bare2, un2, hok2, rv, ev, ea, q2⟩ := hq'
      subst ev
      obtain ⟨h2, g2, d2, t2, os'⟩ := s'
      exact ⟨rv, mk_none (raises_own T.exC T.tyC) I up1 kk un2 hok2 os2 bare2 ea q2⟩
    | next => exact False.elim hq'
    | brk => exact False.elim hq'
    | cont => exact False.elim hq'
end
end L2

set_option maxRecDepth 100000
set_option maxHeartbeats 4000000
namespace K01
open PySem PySem.Spec PyProof.Rows L2 He VH RZ
abbrev sChk : Stmt := top 12
abbrev sHas : Stmt := top 13
abbrev FnChk (K : PySem.W.Frag) (fd : FuncData) : Prop := FnP K "checks_of" sChk (ga K "checks_of") fd
abbrev FnHas (K : PySem.W.Frag) (fd : FuncData) : Prop := FnP K "has_word" sHas (ga K "has_word") fd
theorem bChk {K : PySem.W.Frag} {fd : FuncData} (F : FnChk K fd) : Binds K fd ["statement"] [] := FunD.bindsN F fun _ _ _ _ _ _ us hl => match us, hl with | [_], _ => rfl
theorem bHas {K : PySem.W.Frag} {fd : FuncData} (F : FnHas K fd) : Binds K fd ["statement", "words"] [] := FunD.bindsN F fun _ _ _ _ _ _ us hl => match us, hl with | [_, _], _ => rfl
abbrev FnNos (K : PySem.W.Frag) (fd : FuncData) : Prop := FnM K "__init__" "NoStatement.__init__" 2 0 (ma K (ga K "NoStatement") "__init__") fd
/-- a statement's word, what stands behind it, its checks -/
structure Stp where
  w : Str
  mid : List Str
  cs : List Str
deriving DecidableEq
def Stp.ok (s : Stp) : Bool := heads.contains s.w && (decide (s.mid.length = (plcs s.w).length) && ((s.mid.zip (plcs s.w)).all (fun q => q.2.contains q.1) && (wdsOk s.cs cks && (s.w != "insert" || s.cs.isEmpty))))
/-- it stands at p -/
def StAt (H : Hp) (p : Addr) (s : Stp) : Prop := if s.w = "insert" then H p = some (.tup (.str "insert" :: s.mid.map V.str)) else ∃ q, H p = some (.tup (.str s.w :: (s.mid.map V.str ++ [.ref q]))) ∧ H q = some (.tup (s.cs.map V.str))
theorem StAt.same {H H' : Hp} {p : Addr} {s : Stp} (h : StAt H p s) (e : ∀ b xs, H b = some (.tup xs) → H' b = some (.tup xs)) : StAt H' p s := by
  unfold StAt at h ⊢
  split
  · rename_i z
    rw [if_pos z] at h
    exact e _ _ h
  · rename_i z
    rw [if_neg z] at h
    obtain ⟨q, h1, h2⟩ := h
    exact ⟨q, e _ _ h1, e _ _ h2⟩
/-- a raise of NoStatement -/
def Rn (K : PySem.W.Frag) (E : XK) (H : Hp) : Prop := ∀ H' : Hp, Same H H' → E (.ref (ga K "NoStatement")) none H'
def spPass : Sp := fun vs H Q _ => ∃ v, vs = [v] ∧ Q .non H
section
variable {P : Program} {w : World} {K : PySem.W.Frag} {mg : Str → Option Value} {base : Heap} {f : Addr} {fd fdI fdW fdS fdN fdC fdT : FuncData}
theorem scNos : FnScope ["self"] ["self"] (defScope (inClass (top 2) 0)) := ⟨rfl, rfl, rfl, by decide +kernel, rfl, by decide +kernel, by decide +kernel⟩
theorem okNos (F : FnM K "__init__" "NoStatement.__init__" 2 0 f fd) : FnOk P w K mg base CX0 1 f fd ["self"] spPass := by
  refine F.ok scNos (fun vs H Q E h => ?_) (fun cdv A outer s H vs Q E hr h => ?_)
  · obtain ⟨a, rfl, _⟩ := h
    rfl
  refine ⟨_, PSs.nox (pss_one ps_pass), ?_⟩
  obtain ⟨a, rfl, q⟩ := h
  exact q
theorem bNos (F : FnM K "__init__" "NoStatement.__init__" 2 0 f fd) : Binds K fd ["self"] [] := FunD.bindsN F fun _ _ _ _ _ _ us hl => match us, hl with | [_], _ => rfl
theorem read_nos {H : Hp} {E : XK} (h : Rn K E H) : tMkN (ga K "NoStatement") spPass ([] : L2.St) H (fun cls d H' => E cls d H') := fun a n => ⟨_, rfl, rfl, upd_same, h _ fun b o e => by
  rw [del_ne (ne_of_none e n), upd_ne (ne_of_none e n)]
  exact e⟩
theorem scChk : FnScope ["statement"] ["statement"] (defScope sChk) := ⟨rfl, rfl, rfl, by decide +kernel, rfl, by decide +kernel, by decide +kernel⟩
/-- the checks of a statement: a tuple of texts -/
def spChk (K : PySem.W.Frag) : Sp := fun vs H Q _ => ∃ (p : Addr) (s : Stp), vs = [.ref p] ∧ StAt H p s ∧ s.ok = true ∧ ∀ (H' : Hp) (q : Addr), Same H H' → H' q = some (.tup (s.cs.map V.str)) → Q (.ref q) H'
theorem ok_chk (F : FnP K "checks_of" sChk f fd) : FnOk P w K mg base CX0 1 f fd ["statement"] (spChk K) := by
  refine F.ok scChk (fun vs H Q E h => ?_) (fun cdv A outer s H vs Q E hr h => ?_)
  · obtain ⟨x, r, rfl, _⟩ := h
    rfl
  refine ⟨_, PSs.nox (pss_cons (ps_if (pt_cmpR op_eq (pe_ix ix_tup (pv 0) pe_int (fun _ _ => rfl)) pe_str (nomark _)) (pss_one (ps_ret (pe_tup pa_nil))) pss_nil) (pss_one (ps_ret (pe_ix ix_tup (pv 0) (pe_un un_neg pe_int) (fun _ _ => rfl))))), ?_⟩
  obtain ⟨p, s, rfl, at_, ok, k⟩ := h
  unfold StAt at at_
  by_cases z : s.w = "insert"
  · rw [if_pos z] at at_
    refine ⟨_, rfl, _, _, _, _, rfl, rfl, SqT.of at_, at0, rfl, _, rfl, iteT ⟨(show 0 ≤ sizeLine by decide), fun e ne => k _ e (Same.new ne) ?_⟩⟩
    have e0 : s.cs = [] := by
      unfold Stp.ok at ok
      simp only [Bool.and_eq_true, Bool.or_eq_true, bne_iff_ne, ne_eq, List.isEmpty_iff] at ok
      rcases ok.2.2.2.2 with y | y
      · exact absurd z y
      · exact y
    rw [e0]
    exact upd_same
  · rw [if_neg z] at at_
    obtain ⟨q, h1, h2⟩ := at_
    refine ⟨_, rfl, _, _, _, _, rfl, rfl, SqT.of h1, at0, rfl, _, rfl, ?_⟩
    rw [show decide (V.str s.w = V.str "insert") = false by simp [z]]
    refine iteF ⟨_, rfl, 1, rfl, _, _, _, _, rfl, rfl, SqT.of h1, ?_, k H q (Same.refl H) h2⟩
    exact atL (xs := .str s.w :: s.mid.map V.str)
end
end K01

set_option maxRecDepth 100000
set_option maxHeartbeats 4000000
namespace K01
open PySem PySem.Spec PyProof.Rows L2 He VH RZ
theorem Stp.facts {s : Stp} (h : s.ok = true) : s.w ∈ heads ∧ s.mid.length = (plcs s.w).length ∧ (s.mid.zip (plcs s.w)).all (fun q => q.2.contains q.1) = true ∧ wdsOk s.cs cks = true ∧ (s.w = "insert" → s.cs = []) := by
  unfold Stp.ok at h
  simp only [Bool.and_eq_true, Bool.or_eq_true, bne_iff_ne, ne_eq, List.isEmpty_iff, decide_eq_true_eq] at h
  obtain ⟨h1, h2, h3, h4, h5⟩ := h
  exact ⟨List.contains_iff_mem.mp h1, h2, h3, h4, fun z => h5.elim (fun y => absurd z y) id⟩
theorem plcs_le (w : Str) : (plcs w).length ≤ 2 := by
  unfold plcs
  split
  · decide
  · split
    · decide
    · split <;> decide
theorem wds_mem {cs : List Str} (h : wdsOk cs cks = true) : ∀ z ∈ cs, z ∈ cks := by
  unfold wdsOk at h
  simp only [Bool.and_eq_true] at h
  exact fun z hz => List.contains_iff_mem.mp (List.all_eq_true.mp h.1 z hz)
theorem wds_le {cs : List Str} (h : wdsOk cs cks = true) : cs.length ≤ 3 := by
  unfold wdsOk at h
  simp only [Bool.and_eq_true, decide_eq_true_eq] at h
  rw [h.2]
  exact List.length_filter_le _ cks
theorem lay_cks : ∀ z ∈ cks, PyData.canLay0 (.str z) = true := by decide +kernel
def Ls : Nat → List (List Str)
  | 0 => [[]]
  | n + 1 => Ls n ++ (Ls n).map (· ++ [cks.getD n ""])
theorem Ls_ok : ∀ cs ∈ Ls 3, wdsOk cs cks = true := by decide +kernel
theorem Stp.kinds {s : Stp} (ok : s.ok = true) : (s.w = "insert" ∧ s.cs = [] ∧ ∃ m, s.mid = [m] ∧ m ∈ (["none", "now"] : List Str)) ∨ (s.w = "delete" ∧ s.mid = []) ∨ (s.w = "put" ∧ ∃ m, s.mid = [m] ∧ m ∈ (["none", "now", "read", "copy"] : List Str)) ∨
    (s.w = "set" ∧ ∃ m n, s.mid = [m, n] ∧ m ∈ (["keep", "input", "read"] : List Str) ∧ n ∈ (["keep", "none", "now", "read", "copy"] : List Str)) := by
  obtain ⟨f1, f2, f3, _, f5⟩ := Stp.facts ok
  obtain ⟨sw, mid, cs⟩ := s
  simp only at f1 f2 f3 f5 ⊢
  simp only [heads, List.mem_cons, List.not_mem_nil, or_false] at f1
  rcases f1 with rfl | rfl | rfl | rfl
  · refine .inr (.inr (.inr ⟨rfl, ?_⟩))
    match mid, f2, f3 with
    | [m, n], _, f3 =>
      simp only [plcs, if_true, List.zip_cons_cons, List.all_cons, Bool.and_eq_true] at f3
      exact ⟨m, n, rfl, List.contains_iff_mem.mp f3.1, List.contains_iff_mem.mp f3.2.1⟩
  · refine .inr (.inr (.inl ⟨rfl, ?_⟩))
    match mid, f2, f3 with
    | [m], _, f3 =>
      have e : plcs "put" = ([["none", "now", "read", "copy"]] : List (List Str)) := by decide
      rw [e] at f3
      simp only [List.zip_cons_cons, List.all_cons, Bool.and_eq_true] at f3
      exact ⟨m, rfl, List.contains_iff_mem.mp f3.1⟩
  · refine .inl ⟨rfl, f5 rfl, ?_⟩
    match mid, f2, f3 with
    | [m], _, f3 =>
      have e : plcs "insert" = ([["none", "now"]] : List (List Str)) := by decide
      rw [e] at f3
      simp only [List.zip_cons_cons, List.all_cons, Bool.and_eq_true] at f3
      exact ⟨m, rfl, List.contains_iff_mem.mp f3.1⟩
  · refine .inr (.inl ⟨rfl, ?_⟩)
    match mid, f2 with
    | [], _ => rfl
theorem cs_all {cs : List Str} (h : wdsOk cs cks = true) : cs ∈ Ls 3 := by
  unfold wdsOk at h
  simp only [Bool.and_eq_true, decide_eq_true_eq] at h
  have e := h.2
  cases h1 : cs.contains "missing" <;> cases h2 : cs.contains "same old" <;> cases h3 : cs.contains "same new" <;>
    (simp only [cks, List.filter_cons, h1, h2, h3, List.filter_nil, if_true, Bool.false_eq_true, if_false] at e; rw [e]; decide)
def allSt : List Stp :=
  (["none", "now"] : List Str).map (fun f => ⟨"insert", [f], []⟩) ++ ((Ls 3).map (fun c => ⟨"delete", [], c⟩) ++ ((Ls 3).flatMap (fun c => (["none", "now", "read", "copy"] : List Str).map fun f => ⟨"put", [f], c⟩) ++
    (Ls 3).flatMap (fun c => (["keep", "input", "read"] : List Str).flatMap fun m => (["keep", "none", "now", "read", "copy"] : List Str).map fun f => ⟨"set", [m, f], c⟩)))
theorem mem_all {s : Stp} (ok : s.ok = true) : s ∈ allSt := by
  have kd := Stp.kinds ok
  obtain ⟨_, _, _, f4, _⟩ := Stp.facts ok
  have hc := cs_all f4
  obtain ⟨sw, mid, cs⟩ := s
  simp only at kd hc
  unfold allSt
  rcases kd with ⟨rfl, rfl, m, rfl, hm⟩ | ⟨rfl, rfl⟩ | ⟨rfl, m, rfl, hm⟩ | ⟨rfl, m, n, rfl, hm, hn⟩
  · exact List.mem_append_left _ (List.mem_map.mpr ⟨m, hm, rfl⟩)
  · exact List.mem_append_right _ (List.mem_append_left _ (List.mem_map.mpr ⟨cs, hc, rfl⟩))
  · exact List.mem_append_right _ (List.mem_append_right _ (List.mem_append_left _ (List.mem_flatMap.mpr ⟨cs, hc, List.mem_map.mpr ⟨m, hm, rfl⟩⟩)))
  · exact List.mem_append_right _ (List.mem_append_right _ (List.mem_append_right _ (List.mem_flatMap.mpr ⟨cs, hc, List.mem_flatMap.mpr ⟨m, hm, List.mem_map.mpr ⟨n, hn, rfl⟩⟩⟩)))
/-- the statement's tree -/
def Stp.tr (s : Stp) : Tr := if s.w = "insert" then .tup (.str "insert" :: s.mid.map Tr.str) else .tup (.str s.w :: (s.mid.map Tr.str ++ [.tup (s.cs.map Tr.str)]))
theorem StAt.tr {K : PySem.W.Frag} {H : Hp} {p : Addr} {s : Stp} (h : StAt H p s) : At K H (.ref p) s.tr := by
  unfold StAt at h
  unfold Stp.tr
  by_cases z : s.w = "insert"
  · rw [if_pos z] at h
    rw [if_pos z]
    exact .tup (SqT.of h) (.cons .str (Ats.strs _))
  · rw [if_neg z] at h
    rw [if_neg z]
    obtain ⟨q, a, b⟩ := h
    exact .tup (SqT.of a) (.cons .str ((Ats.strs _).app (.cons (.tup (SqT.of b) (Ats.strs _)) .nil)))
theorem tr_all : ∀ s ∈ allSt, s.tr.fine = true ∧ isSt s.tr = true := by decide +kernel
theorem StAt.is {K : PySem.W.Frag} {H : Hp} {p : Addr} {s : Stp} (h : StAt H p s) (ok : s.ok = true) : IsSt K H (.ref p) true := ⟨_, h.tr, (tr_all s (mem_all ok)).1, (tr_all s (mem_all ok)).2⟩
def hasW (s : Stp) (ws : List Str) : Bool := (s.w :: (s.mid ++ s.cs)).any ws.contains
/-- an item of a statement: a text, or its checks at q -/
def itV (q : Addr) : Option Str → V
  | some z => .str z
  | none => .ref q
def itB (ws : List Str) : Option Str → Bool
  | some z => ws.contains z
  | none => false
def itD (cs : List Str) : Option Str → PyData
  | some z => .str z
  | none => .tuple (cs.map PyData.str)
theorem anyS {z : Str} {ws : List Str} : ((ws.map PyData.str).any fun y => PyData.eqv y (.str z)) = ws.contains z := by
  induction ws with
  | nil => rfl
  | cons w ws ih =>
    rw [List.map_cons, List.any_cons, ih, List.contains_cons]
    congr 1
    show (w == z) = (z == w)
    by_cases h : w = z
    · subst h
      rfl
    · exact (beq_false_of_ne h).trans (beq_false_of_ne (Ne.symm h)).symm
theorem anyT {cs ws : List Str} : ((ws.map PyData.str).any fun y => PyData.eqv y (.tuple (cs.map PyData.str))) = false := by
  induction ws with
  | nil => rfl
  | cons w ws ih => rw [List.map_cons, List.any_cons, ih]; rfl
theorem shpT {ws : List Str} (h : ∀ z ∈ ws, PyData.canLay0 (.str z) = true) : SeqAt.shaped (.tuple (ws.map PyData.str)) = true := by
  have z := shpAll ws h
  unfold SeqAt.shaped PyData.canLay0 PyData.depth
  rw [z.1, z.2]
  rfl
theorem dpT {K : PySem.W.Frag} {H : Hp} {p : Addr} {ws : List Str} (h : SqT K H p (ws.map V.str)) : Dp K H (.ref p) (.tuple (ws.map PyData.str)) := .tup h (dpS ws)
def spHas (K : PySem.W.Frag) : Sp := fun vs H Q E => ∃ (x : V) (pw : Addr) (ws : List Str), vs = [x, .ref pw] ∧ (∀ H, SqT K H pw (ws.map V.str)) ∧ (∀ z ∈ ws, PyData.canLay0 (.str z) = true) ∧
  ((IsSt K H x false ∧ Rn K E H) ∨ ∃ p s, x = .ref p ∧ StAt H p s ∧ s.ok = true ∧ (∀ z ∈ s.w :: s.mid, PyData.canLay0 (.str z) = true) ∧ ∀ H', Same H H' → Q (.bl (hasW s ws)) H')
theorem eqB {cs ws : List Str} (y : Option Str) : ((ws.map PyData.str).any fun u => PyData.eqv u (itD cs y)) = itB ws y := by
  cases y with
  | none => exact anyT
  | some z => exact anyS
theorem shpY {cs : List Str} (hc : ∀ z ∈ cs, PyData.canLay0 (.str z) = true) (y : Option Str) (h : ∀ z, y = some z → PyData.canLay0 (.str z) = true) : SeqAt.shaped (itD cs y) = true := by
  cases y with
  | none => exact shpT hc
  | some z =>
    unfold SeqAt.shaped itD
    rw [h z rfl]
    rfl
theorem mapS {q : Addr} {l : List Str} : (l.map some).map (itV q) = l.map V.str := by
  rw [List.map_map]
  rfl
theorem mapB {ws l : List Str} : ((l.map some).map (itB ws)).any id = l.any ws.contains := by
  rw [List.map_map, List.any_map]
  rfl
section
variable {P : Program} {w : World} {K : PySem.W.Frag} {mg : Str → Option Value} {base : Heap} {f : Addr} {fd fdI fdW fdS fdN fdC fdT : FuncData}
abbrev nHas : List Str := ["statement", "words", "word"]
theorem scHas : FnScope nHas ["statement", "words"] (defScope sHas) := ⟨rfl, rfl, rfl, by decide +kernel, rfl, by decide +kernel, by decide +kernel⟩
theorem passN {X : Cx} : Passes (L2.CX X.prog X.w) X (fun _ _ _ => False) := fun _ _ _ _ _ _ _ h => by
  obtain ⟨_, _, _, _, _, _, _, _, _, _, _, _, z⟩ := h
  exact z.elim
theorem ok_has (F : FnP K "has_word" sHas f fd) (T : Txt K mg w) (FT : FnIst K fdT) (FC : FnChk K fdC) (FN : FnNos K fdN) (FW : FnWrd K fdW) (FS : FnWds K fdS) : FnOk P w K mg base (L2.CX P w) 4 f fd ["statement", "words"] (spHas K) := by
  have GT : FnOk P w K mg base CX0 3 (ga K "is_statement") fdT ["value"] (spIst K) := ok_ist FT T FW FS
  have GC : FnOk P w K mg base CX0 1 (ga K "checks_of") fdC ["statement"] (spChk K) := ok_chk FC
  refine F.ok scHas (fun vs H Q E h => ?_) (fun cdv A outer s H vs Q E hr h => ?_)
  · obtain ⟨x, p, ws, rfl, _⟩ := h
    rfl
  have hu65 : (A.deeper (envOfC "has_word" (defScope sHas) s.heap.objs.size f cdv)).units + 65 < cLine := by
    have := hr.un
    omega
  refine ⟨_, pss_cons (ps_if (pt_not (pt_val (pe_call GT hr (by rfl) T.m_is_statement FT.kp (bIst FT) .nil pass0 (pa_cons (pv 0) pa_nil))))
      (pss_one (ps_raise rfl (takes_of rfl rfl rfl rfl) (pmk_oexN T.x_NoStatement.mkx.toOexC T.x_NoStatement.mkx.ini T.x_NoStatement.mkx.tyI (okNos FN) (hr.mono (by decide)) (bNos FN) pass0 (by rfl) T.m_NoStatement))) pss_nil)
    (pss_one (ps_ret (pe_callB (cr_any rfl) (by rfl) T.g_any boot_any (pa_cons (pe_lc (own := [("word", 2)]) (g := gName 2) (tt := tYes) (te := tOp (rInDT K) (tVar 2) (tVar 1)) rfl scHas.nd
        (pi_tup (pe_op op_catT (pv 0) (pe_call GC (hr.mono (by decide)) (by rfl) T.m_checks_of FC.kp (bChk FC) .nil pass0 (pa_cons (pv 0) pa_nil)))) (blkOk_by (N := nHas) (sc := defScope sHas) (by decide +kernel))
        (fun _ _ _ _ _ => pg_name (i := 2) scHas.nd rfl (Or.inl rfl)) (fun _ _ _ _ _ => pts_nil) (fun _ _ _ _ _ => pe_cmpR (op_inDT hu65) (pv 2) (pv 1) (by rfl))) pa_nil)))), ?_⟩
  obtain ⟨x, pw, ws, rfl, hw, lw, way⟩ := h
  rcases way with ⟨is, rn⟩ | ⟨p, s, rfl, at_, ok, lay, k⟩
  · refine ⟨_, rfl, _, false, rfl, is, fun H' S => ⟨false, rfl, iteT ?_⟩⟩
    exact read_nos (fun H'' s => rn H'' (S.trans s))
  · refine ⟨_, rfl, _, true, rfl, at_.is ok, fun H1 S1 => ⟨true, rfl, iteF ?_⟩⟩
    have tupS1 : ∀ b xs, H b = some (.tup xs) → H1 b = some (.tup xs) := fun b xs e => S1 _ _ e
    have at1 := at_.same tupS1
    refine ⟨_, rfl, _, rfl, p, s, rfl, at1, ok, fun H2 qc S2 hqc => ?_⟩
    have at2 := at1.same (fun b xs e => S2 _ _ e)
    have SH := S1.trans S2
    obtain ⟨f1, f2, f3, f4, f5⟩ := Stp.facts ok
    have l1 := plcs_le s.w
    have l2 := wds_le f4
    have big : 1000 < sizeLine := by decide
    have layC : ∀ z ∈ s.cs, PyData.canLay0 (.str z) = true := fun z hz => lay_cks z (wds_mem f4 z hz)
    unfold StAt at at2
    by_cases z : s.w = "insert"
    · rw [if_pos z] at at2
      have e0 := f5 z
      rw [e0] at hqc
      refine ⟨p, qc, _, _, rfl, rfl, SqT.of at2, SqT.of hqc, by simp, by simp; omega, fun _ => ?_, fun n => absurd rfl n⟩
      have e3 : s.cs = [] := e0
      let q0 : Addr := p
      let G : Hp := H2
      let its : List (Option Str) := (("insert" : Str) :: s.mid).map some
      have SG : Same H G := SH
      have hx : SqT K G p (its.map (itV q0)) := by
        have := SqT.of (K := K) at2
        show SqT K H2 p (((("insert" : Str) :: s.mid).map some).map (itV p))
        rw [mapS]
        exact this
      have hq0 : none ∈ its → G q0 = some (.tup (s.cs.map V.str)) := fun h => by
        obtain ⟨_, _, z⟩ := List.mem_map.mp h
        cases z
      have lits : its.length ≤ 1000 := by
        show ((("insert" : Str) :: s.mid).map some).length ≤ 1000
        rw [List.length_map, List.length_cons]
        omega
      have hlay : ∀ y, some y ∈ its → PyData.canLay0 (.str y) = true := fun y hy => by
        obtain ⟨u, hu, e⟩ := List.mem_map.mp hy
        cases e
        exact lay _ (z ▸ hu)
      have hany : (its.map (itB ws)).any id = hasW s ws := by
        show (((("insert" : Str) :: s.mid).map some).map (itB ws)).any id = hasW s ws
        rw [mapB]
        unfold hasW
        rw [e3, List.append_nil, z]
      refine ⟨_, rfl, ⟨_, hx⟩, fun D nD => ?_⟩
      refine lc_tup (K := K) (xs := its.map (itV q0)) (fun i G' => Same G G' ∧ G' D = some (.lst ((its.take i).map fun y => V.bl (itB ws y)))) ⟨Same.new nD, upd_same⟩ (fun i G' _ g => sqT_same' g.1 hx) (fun i x G' hx' g => ?_) (fun G' g => ?_)
      · obtain ⟨s2, h2⟩ := g
        rw [List.getElem?_map] at hx'
        obtain ⟨y, hy, rfl⟩ := Option.map_eq_some_iff.mp hx'
        have mem := List.mem_of_getElem? hy
        have li := (List.getElem?_eq_some_iff.mp hy).1
        refine ⟨rfl, _, rfl, _, rfl, itD s.cs y, ws.map PyData.str, ?_, dpT (hw _), shpY layC y (fun z e => hlay z (e ▸ mem)), shpT lw, _, h2, ?_, same_put s2 nD, ?_⟩
        · cases y with
          | none => exact dpT (SqT.of (s2 _ _ (hq0 mem)))
          | some z => exact .str z
        · rw [List.length_map, List.length_take]
          omega
        · rw [eqB, List.take_succ, hy]
          simp only [Option.toList, List.map_append]
          exact upd_same
      · obtain ⟨s2, h2⟩ := g
        rw [List.length_map, List.take_length] at h2
        refine ⟨D, its.map (itB ws), rfl, SqL.of (by rw [List.map_map]; exact h2), ?_⟩
        rw [hany]
        exact k G' (SG.trans s2)
    · rw [if_neg z] at at2
      obtain ⟨q0, a1, a2⟩ := at2
      refine ⟨p, qc, _, _, rfl, rfl, SqT.of a1, SqT.of hqc, by simp, by simp; omega, fun e => ?_, fun n p2 n2 => ?_⟩
      · have eI : (V.str s.w :: (s.mid.map V.str ++ [.ref q0])) = (((s.w :: s.mid).map some ++ [none]) : List (Option Str)).map (itV q0) := by
          rw [List.map_append, mapS]
          rfl
        have e0 : s.cs = [] := List.map_eq_nil_iff.mp e
        let its : List (Option Str) := ((s.w :: s.mid).map some ++ [none] : List (Option Str))
        let G : Hp := H2
        have SG : Same H G := SH
        have hx : SqT K G p (its.map (itV q0)) := by
          have := SqT.of (K := K) a1
          rw [eI] at this
          exact this
        have hq0 : none ∈ its → G q0 = some (.tup (s.cs.map V.str)) := fun _ => a2
        have lits : its.length ≤ 1000 := by
          show (((s.w :: s.mid).map some ++ [none] : List (Option Str))).length ≤ 1000
          simp only [List.length_append, List.length_map, List.length_cons, List.length_nil]
          omega
        have hlay : ∀ y, some y ∈ its → PyData.canLay0 (.str y) = true := fun y hy => by
          have hy : some y ∈ ((s.w :: s.mid).map some ++ [none] : List (Option Str)) := hy
          simp only [List.mem_append, List.mem_map, List.mem_singleton, reduceCtorEq, or_false, Option.some.injEq, exists_eq_right] at hy
          exact lay y hy
        have hany : (its.map (itB ws)).any id = hasW s ws := by
          show ((((s.w :: s.mid).map some ++ [none] : List (Option Str))).map (itB ws)).any id = hasW s ws
          rw [List.map_append, List.any_append, mapB]
          unfold hasW
          rw [e0, List.append_nil]
          exact Bool.or_false _
        refine ⟨_, rfl, ⟨_, hx⟩, fun D nD => ?_⟩
        refine lc_tup (K := K) (xs := its.map (itV q0)) (fun i G' => Same G G' ∧ G' D = some (.lst ((its.take i).map fun y => V.bl (itB ws y)))) ⟨Same.new nD, upd_same⟩ (fun i G' _ g => sqT_same' g.1 hx) (fun i x G' hx' g => ?_) (fun G' g => ?_)
        · obtain ⟨s2, h2⟩ := g
          rw [List.getElem?_map] at hx'
          obtain ⟨y, hy, rfl⟩ := Option.map_eq_some_iff.mp hx'
          have mem := List.mem_of_getElem? hy
          have li := (List.getElem?_eq_some_iff.mp hy).1
          refine ⟨rfl, _, rfl, _, rfl, itD s.cs y, ws.map PyData.str, ?_, dpT (hw _), shpY layC y (fun z e => hlay z (e ▸ mem)), shpT lw, _, h2, ?_, same_put s2 nD, ?_⟩
          · cases y with
            | none => exact dpT (SqT.of (s2 _ _ (hq0 mem)))
            | some z => exact .str z
          · rw [List.length_map, List.length_take]
            omega
          · rw [eqB, List.take_succ, hy]
            simp only [Option.toList, List.map_append]
            exact upd_same
        · obtain ⟨s2, h2⟩ := g
          rw [List.length_map, List.take_length] at h2
          refine ⟨D, its.map (itB ws), rfl, SqL.of (by rw [List.map_map]; exact h2), ?_⟩
          rw [hany]
          exact k G' (SG.trans s2)
      · have eI : (V.str s.w :: (s.mid.map V.str ++ [.ref q0])) = (((s.w :: s.mid).map some ++ [none]) : List (Option Str)).map (itV q0) := by
          rw [List.map_append, mapS]
          rfl
        let its : List (Option Str) := ((s.w :: s.mid).map some ++ [none] ++ s.cs.map some : List (Option Str))
        let G : Hp := upd H2 p2 (.tup (V.str s.w :: (s.mid.map V.str ++ [.ref q0]) ++ s.cs.map V.str))
        have SG : Same H G := SH.trans (Same.new n2)
        have hx : SqT K G p2 (its.map (itV q0)) := by
          have : SqT K G p2 (V.str s.w :: (s.mid.map V.str ++ [.ref q0]) ++ s.cs.map V.str) := SqT.of upd_same
          rw [eI, ← mapS (q := q0) (l := s.cs), ← List.map_append] at this
          exact this
        have hq0 : none ∈ its → G q0 = some (.tup (s.cs.map V.str)) := fun _ => (Same.new n2) _ _ a2
        have lits : its.length ≤ 1000 := by
          show (((s.w :: s.mid).map some ++ [none] ++ s.cs.map some : List (Option Str))).length ≤ 1000
          simp only [List.length_append, List.length_map, List.length_cons, List.length_nil]
          omega
        have hlay : ∀ y, some y ∈ its → PyData.canLay0 (.str y) = true := fun y hy => by
          have hy : some y ∈ ((s.w :: s.mid).map some ++ [none] ++ s.cs.map some : List (Option Str)) := hy
          simp only [List.mem_append, List.mem_map, List.mem_singleton, reduceCtorEq, or_false, Option.some.injEq, exists_eq_right] at hy
          rcases hy with hy | hy
          · exact lay y hy
          · exact layC y hy
        have hany : (its.map (itB ws)).any id = hasW s ws := by
          show ((((s.w :: s.mid).map some ++ [none] ++ s.cs.map some : List (Option Str))).map (itB ws)).any id = hasW s ws
          rw [List.map_append, List.any_append, List.map_append, List.any_append, mapB, mapB]
          unfold hasW
          rw [← List.cons_append, List.any_append]
          show (((s.w :: s.mid).any ws.contains || (false || false)) || s.cs.any ws.contains) = _
          rw [Bool.or_false, Bool.or_false]
        refine ⟨_, rfl, ⟨_, hx⟩, fun D nD => ?_⟩
        refine lc_tup (K := K) (xs := its.map (itV q0)) (fun i G' => Same G G' ∧ G' D = some (.lst ((its.take i).map fun y => V.bl (itB ws y)))) ⟨Same.new nD, upd_same⟩ (fun i G' _ g => sqT_same' g.1 hx) (fun i x G' hx' g => ?_) (fun G' g => ?_)
        · obtain ⟨s2, h2⟩ := g
          rw [List.getElem?_map] at hx'
          obtain ⟨y, hy, rfl⟩ := Option.map_eq_some_iff.mp hx'
          have mem := List.mem_of_getElem? hy
          have li := (List.getElem?_eq_some_iff.mp hy).1
          refine ⟨rfl, _, rfl, _, rfl, itD s.cs y, ws.map PyData.str, ?_, dpT (hw _), shpY layC y (fun z e => hlay z (e ▸ mem)), shpT lw, _, h2, ?_, same_put s2 nD, ?_⟩
          · cases y with
            | none => exact dpT (SqT.of (s2 _ _ (hq0 mem)))
            | some z => exact .str z
          · rw [List.length_map, List.length_take]
            omega
          · rw [eqB, List.take_succ, hy]
            simp only [Option.toList, List.map_append]
            exact upd_same
        · obtain ⟨s2, h2⟩ := g
          rw [List.length_map, List.take_length] at h2
          refine ⟨D, its.map (itB ws), rfl, SqL.of (by rw [List.map_map]; exact h2), ?_⟩
          rw [hany]
          exact k G' (SG.trans s2)
end
end K01

set_option maxRecDepth 100000
set_option maxHeartbeats 4000000
namespace K01
open PySem PySem.Spec PyProof.Rows L2 He VH RZ
abbrev sNre : Stmt := top 14
abbrev sNin : Stmt := top 15
abbrev FnNre (K : PySem.W.Frag) (fd : FuncData) : Prop := FnP K "needs_read" sNre (ga K "needs_read") fd
abbrev FnNin (K : PySem.W.Frag) (fd : FuncData) : Prop := FnP K "needs_input" sNin (ga K "needs_input") fd
theorem lay_pl : ∀ w ∈ heads, PyData.canLay0 (.str w) = true ∧ ∀ l ∈ plcs w, ∀ z ∈ l, PyData.canLay0 (.str z) = true := by decide +kernel
theorem Stp.lay {s : Stp} (ok : s.ok = true) : ∀ z ∈ s.w :: s.mid, PyData.canLay0 (.str z) = true := by
  obtain ⟨f1, f2, f3, _, _⟩ := Stp.facts ok
  obtain ⟨g1, g2⟩ := lay_pl s.w f1
  intro z hz
  rcases List.mem_cons.mp hz with rfl | hz
  · exact g1
  · obtain ⟨i, hi, rfl⟩ := List.mem_iff_getElem.mp hz
    have hi2 : i < (plcs s.w).length := by omega
    have m : (s.mid[i], (plcs s.w)[i]) ∈ s.mid.zip (plcs s.w) := by
      rw [List.mem_iff_getElem]
      exact ⟨i, by rw [List.length_zip]; omega, by simp⟩
    exact g2 _ (List.getElem_mem hi2) _ (List.contains_iff_mem.mp (List.all_eq_true.mp f3 _ m))
abbrev rdW : List Str := ["put", "read", "copy", "same old", "same new"]
abbrev tkW : List Str := ["insert", "input"]
def spNd (K : PySem.W.Frag) (ws : List Str) : Sp := fun vs H Q E => ∃ x : V, vs = [x] ∧ ((IsSt K H x false ∧ Rn K E H) ∨ ∃ p s, x = .ref p ∧ StAt H p s ∧ s.ok = true ∧ ∀ H', Same H H' → Q (.bl (hasW s ws)) H')
section
variable {P : Program} {w : World} {K : PySem.W.Frag} {mg : Str → Option Value} {base : Heap} {f : Addr} {fd fdI fdW fdS fdN fdC fdT fdH : FuncData}
theorem bNre (F : FnNre K fd) : Binds K fd ["statement"] [] := FunD.bindsN F fun _ _ _ _ _ _ us hl => match us, hl with | [_], _ => rfl
theorem bNin (F : FnNin K fd) : Binds K fd ["statement"] [] := FunD.bindsN F fun _ _ _ _ _ _ us hl => match us, hl with | [_], _ => rfl
theorem scNre : FnScope ["statement"] ["statement"] (defScope sNre) := ⟨rfl, rfl, rfl, by decide +kernel, rfl, by decide +kernel, by decide +kernel⟩
theorem scNin : FnScope ["statement"] ["statement"] (defScope sNin) := ⟨rfl, rfl, rfl, by decide +kernel, rfl, by decide +kernel, by decide +kernel⟩
theorem pass_c {X : Cx} {E : XK} (tk : Takes X (fun cls d _ H => E cls d H)) : Passes (L2.CX X.prog X.w) X E := passes_call tk (fun _ _ _ _ h => h)
theorem ok_nre (F : FnP K "needs_read" sNre f fd) (T : Txt K mg w) (FH : FnHas K fdH) (FT : FnIst K fdT) (FC : FnChk K fdC) (FN : FnNos K fdN) (FW : FnWrd K fdW) (FS : FnWds K fdS) : FnOk P w K mg base (L2.CX P w) 5 f fd ["statement"] (spNd K rdW) := by
  have GH : FnOk P w K mg base (L2.CX P w) 4 (ga K "has_word") fdH ["statement", "words"] (spHas K) := ok_has FH T FT FC FN FW FS
  refine F.ok scNre (fun vs H Q E h => ?_) (fun cdv A outer s H vs Q E hr h => ?_)
  · obtain ⟨x, rfl, _⟩ := h
    rfl
  refine ⟨_, pss_one (ps_ret (pe_call GH hr (by rfl) T.m_has_word FH.kp (bHas FH) .nil (pass_c (takes_of rfl rfl rfl rfl)) (pa_cons (pv 0) (pa_cons (pe_glob (v := .ref (ga K "READING")) (by rfl) T.m_READING rfl) pa_nil)))), ?_⟩
  obtain ⟨x, rfl, way⟩ := h
  refine ⟨_, rfl, x, _, rdW, rfl, T.t_READING, by decide +kernel, ?_⟩
  exact way.imp id fun ⟨p, s, e, a, ok, k⟩ => ⟨p, s, e, a, ok, Stp.lay ok, k⟩
theorem ok_nin (F : FnP K "needs_input" sNin f fd) (T : Txt K mg w) (FH : FnHas K fdH) (FT : FnIst K fdT) (FC : FnChk K fdC) (FN : FnNos K fdN) (FW : FnWrd K fdW) (FS : FnWds K fdS) : FnOk P w K mg base (L2.CX P w) 5 f fd ["statement"] (spNd K tkW) := by
  have GH : FnOk P w K mg base (L2.CX P w) 4 (ga K "has_word") fdH ["statement", "words"] (spHas K) := ok_has FH T FT FC FN FW FS
  refine F.ok scNin (fun vs H Q E h => ?_) (fun cdv A outer s H vs Q E hr h => ?_)
  · obtain ⟨x, rfl, _⟩ := h
    rfl
  refine ⟨_, pss_one (ps_ret (pe_call GH hr (by rfl) T.m_has_word FH.kp (bHas FH) .nil (pass_c (takes_of rfl rfl rfl rfl)) (pa_cons (pv 0) (pa_cons (pe_glob (v := .ref (ga K "TAKING")) (by rfl) T.m_TAKING rfl) pa_nil)))), ?_⟩
  obtain ⟨x, rfl, way⟩ := h
  refine ⟨_, rfl, x, _, tkW, rfl, T.t_TAKING, by decide +kernel, ?_⟩
  exact way.imp id fun ⟨p, s, e, a, ok, k⟩ => ⟨p, s, e, a, ok, Stp.lay ok, k⟩
end
end K01

set_option maxRecDepth 100000
set_option maxHeartbeats 4000000
namespace K01
open PySem PySem.Spec PyProof.Rows L2 He VH
abbrev sDraw : Stmt := top 17
abbrev nDraw : List Str := ["_law_well_here", "_law_much", "_law_digit", "_law_blend"]
section
variable {P : Program} {w : World} {K : PySem.W.Frag} {mg : Str → Option Value} {base : Heap} {f : Addr} {fd : FuncData}
theorem scDraw : FnScope nDraw ["_law_well_here", "_law_much"] (defScope sDraw) := ⟨rfl, rfl, rfl, by decide +kernel, rfl, by decide +kernel, by decide +kernel⟩
theorem ok_draw (F : FnP K "_law_draw" sDraw f fd) (gI : mg "int" = none) : FnOk P w K mg base CX0 1 f fd ["_law_well_here", "_law_much"] spDraw := by
  refine F.ok scDraw (fun vs H Q E h => ?_) (fun cdv A outer s H vs Q E hr h => ?_)
  · obtain ⟨a, m, rfl, _⟩ := h
    rfl
  refine ⟨_, PSs.nox (pss_cons (ps_if (pt_cmpR op_gt (pe_ix ix_list (pv 0) pe_int (fun _ _ => rfl)) pe_int (nomark _))
      (pss_cons (ps_set (i := 2) scDraw.nd rfl (Or.inl rfl) (pe_op op_modN (pe_callTy call_int1 (by rfl) gI boot_int (pa_cons (pe_ix ix_list (pv 0) pe_int (fun _ _ => rfl)) pa_nil)) (pv 1)))
      (pss_cons (ps_asg (pe_op op_fdivN (pe_ix ix_list (pv 0) pe_int (fun _ _ => rfl)) (pv 1)) (pg_sub (pv 0) pe_int set_list))
      (pss_one (ps_ret (pv 2))))) pss_nil)
      (pss_cons (ps_asg (pe_op op_add (pe_ix ix_list (pv 0) pe_int (fun _ _ => rfl)) pe_int) (pg_sub (pv 0) pe_int set_list))
      (pss_cons (ps_set (i := 3) scDraw.nd rfl (Or.inl rfl) (pe_op op_modN (pe_callTy call_int1 (by rfl) gI boot_int (pa_cons (pe_op op_mul (pe_op op_add (pe_op op_add (pe_ix ix_list (pv 0) pe_int (fun _ _ => rfl)) (pe_op op_mul pe_int (pe_ix ix_list (pv 0) pe_int (fun _ _ => rfl)))) pe_int) pe_int) pa_nil)) pe_int))
      (pss_cons (ps_set (i := 3) scDraw.nd rfl (Or.inl rfl) (pe_op op_modN (pe_callTy call_int1 (by rfl) gI boot_int (pa_cons (pe_op op_mul (pv 3) (pe_op op_add (pe_op op_fdivN (pv 3) pe_int) pe_int)) pa_nil)) pe_int))
      (pss_one (ps_ret (pe_op op_modN (pe_callTy call_int1 (by rfl) gI boot_int (pa_cons (pe_op op_modN (pe_callTy call_int1 (by rfl) gI boot_int (pa_cons (pe_op op_mul (pv 3) (pe_op op_add (pe_op op_fdivN (pv 3) pe_int) pe_int)) pa_nil)) pe_int) pa_nil)) (pv 1)))))))), ?_⟩
  · obtain ⟨a, m, rfl, ⟨c, b, n, ha⟩, m0, m1, k⟩ := h
    have iL : ∀ {H' : Hp} {l : List V}, H' a = some (.lst l) → SqL K H' a l := fun h => SqL.of h
    refine ⟨_, rfl, a, _, 0, _, rfl, rfl, iL ha, by rfl, _, _, rfl, rfl, _, rfl, ?_⟩
    refine ite2 (fun _ => ?_) (fun _ => ?_)
    · refine ⟨_, rfl, a, _, 0, _, rfl, rfl, iL ha, by rfl, .inl ⟨_, rfl, ?_⟩⟩
      refine ⟨_, rfl, _, _, rfl, rfl, by omega, ?_⟩
      refine ⟨_, rfl, a, _, 0, _, rfl, rfl, iL ha, by rfl, _, rfl, _, _, rfl, rfl, ⟨by omega, by omega⟩, ?_⟩
      refine ⟨_, rfl, a, _, 0, _, rfl, rfl, ha, by rfl, _, rfl, ?_⟩
      refine k _ _ ?_ ?_ ⟨_, _, _, upd_same⟩ But.upd
      · exact Int.fmod_nonneg_of_pos _ m0
      · exact Int.fmod_lt_of_pos _ m0
    · refine ⟨_, rfl, a, _, 2, _, rfl, rfl, iL ha, by rfl, _, _, rfl, rfl, ?_⟩
      refine ⟨_, rfl, a, _, 2, _, rfl, rfl, ha, by rfl, ?_⟩
      have h2 : upd H a (.lst ([V.int c, V.int b, V.int n].set 2 (V.int (n + 1)))) a = some (.lst [V.int c, V.int b, V.int (n + 1)]) := upd_same
      refine ⟨_, rfl, a, _, 1, _, rfl, rfl, iL h2, by rfl, _, rfl, a, _, 2, _, rfl, rfl, iL h2, by rfl, 40087, _, rfl, rfl, .inl (by decide), ?_⟩
      refine ⟨_, _, rfl, rfl, _, _, rfl, rfl, _, 48271, rfl, rfl, .inr (by decide), .inl ⟨_, rfl, ?_⟩⟩
      refine ⟨_, 2147483647, rfl, rfl, (show (2147483647 : Int) ≠ 0 by decide), ?_⟩
      have l1 := Int.fmod_nonneg_of_pos ((b + 40087 * (n + 1) + 11) * 48271) (show (0 : Int) < 2147483647 by decide)
      have u1 := Int.fmod_lt_of_pos ((b + 40087 * (n + 1) + 11) * 48271) (show (0 : Int) < 2147483647 by decide)
      refine ⟨_, rfl, _, rfl, _, 1021, rfl, rfl, ⟨by decide, by decide⟩, _, 69691, rfl, rfl, _, _, rfl, rfl, .inl (by omega), .inl ⟨_, rfl, ?_⟩⟩
      refine ⟨_, 2147483587, rfl, rfl, (show (2147483587 : Int) ≠ 0 by decide), ?_⟩
      obtain ⟨v2, e2, l2, u2⟩ : ∃ v2 : Int, v2 = ((((b + 40087 * (n + 1) + 11) * 48271).fmod 2147483647) * ((((b + 40087 * (n + 1) + 11) * 48271).fmod 2147483647).fdiv 1021 + 69691)).fmod 2147483587 ∧ 0 ≤ v2 ∧ v2 < 2147483587 :=
        ⟨_, rfl, Int.fmod_nonneg_of_pos _ (by decide), Int.fmod_lt_of_pos _ (by decide)⟩
      have h3 : ∀ {i : Nat}, i = 3 → (List.set (List.set (start nDraw [V.ref a, V.int m]) 3 (some (V.int (((b + 40087 * (n + 1) + 11) * 48271).fmod 2147483647)))) 3 (some (V.int v2)))[i]? = some (some (V.int v2)) := fun e => by subst e; rfl
      subst e2
      refine ⟨_, h3 rfl, _, h3 rfl, _, 2017, rfl, rfl, ⟨by decide, by decide⟩, _, 40699, rfl, rfl, _, _, rfl, rfl, .inl ⟨by omega, by omega⟩, .inl ⟨_, rfl, ?_⟩⟩
      refine ⟨_, 2147483399, rfl, rfl, (show (2147483399 : Int) ≠ 0 by decide), .inl ⟨_, rfl, ?_⟩⟩
      refine ⟨_, rfl, _, _, rfl, rfl, (show m ≠ 0 by omega), ?_⟩
      exact k _ _ (Int.fmod_nonneg_of_pos _ m0) (Int.fmod_lt_of_pos _ m0) ⟨_, _, _, h2⟩ But.upd
end
end K01

set_option maxRecDepth 100000
set_option maxHeartbeats 4000000
namespace K01
open PySem PySem.Spec PyProof.Rows L2 He VH
abbrev sWell : Stmt := top 18
abbrev sOne : Stmt := top 19
theorem rep_ints (n : Nat) : (List.replicate n [V.int 0]).flatten = (List.replicate n (0 : Int)).map V.int := by
  induction n with
  | zero => rfl
  | succ n ih =>
    rw [List.replicate_succ, List.flatten_cons, ih, List.replicate_succ, List.map_cons]
    rfl
theorem cell_is {ns : List Int} {k : Nat} {m : Int} (hm : m = (k : Int) + 1) : ∃ c : Int, atI (ns.map V.int ++ (List.replicate m.toNat [V.int 0]).flatten) (k : Int) = some (V.int c) := by
  have e : m.toNat = k + 1 := by omega
  rw [e, rep_ints, ← List.map_append]
  have lt : k < (ns ++ List.replicate (k + 1) (0 : Int)).length := by
    rw [List.length_append, List.length_replicate]
    omega
  refine ⟨(ns ++ List.replicate (k + 1) (0 : Int))[k], atI_nat ?_⟩
  rw [List.getElem?_map, List.getElem?_eq_getElem lt]
  rfl
section
variable {P : Program} {w : World} {K : PySem.W.Frag} {mg : Str → Option Value} {base : Heap} {f fD : Addr} {fd fdD : FuncData}
theorem scWell : FnScope ["_law_script", "_law_at", "_law_cell"] ["_law_script", "_law_at"] (defScope sWell) := ⟨rfl, rfl, rfl, by decide +kernel, rfl, by decide +kernel, by decide +kernel⟩
theorem ok_well (F : FnP K "_law_well" sWell f fd) (gI : mg "int" = none) : FnOk P w K mg base CX0 1 f fd ["_law_script", "_law_at"] (spWell K) := by
  refine F.ok scWell (fun vs H Q E h => ?_) (fun cdv A outer s H vs Q E hr h => ?_)
  · obtain ⟨a, ns, k, rfl, _⟩ := h
    rfl
  refine ⟨_, PSs.nox (pss_cons (ps_set (i := 2) scWell.nd rfl (Or.inl rfl) (pe_ix ix_list (pe_op op_catR (pv 0) (pe_op op_rep (pe_lst (pa_cons pe_int pa_nil)) (pe_op op_add (pv 1) pe_int))) (pv 1) (fun _ _ => rfl)))
    (pss_one (ps_ret (pe_lst (pa_cons (pe_op op_mul (pv 2) (pe_callTy call_int1 (by rfl) gI boot_int (pa_cons (pe_cmpR op_ge (pv 2) (pe_op op_pow pe_int pe_int) (nomark _)) pa_nil)))
      (pa_cons (pe_op op_add (pe_op op_modN (pe_callTy call_int1 (by rfl) gI boot_int (pa_cons (pv 2) pa_nil)) pe_int) (pe_op op_mul pe_int (pv 1)))
      (pa_cons pe_int pa_nil))))))), ?_⟩
  obtain ⟨a, ns, k, rfl, ha, l1, l2, kk⟩ := h
  refine ⟨_, rfl, by decide, fun p hp => ?_⟩
  refine ⟨_, rfl, _, 1, rfl, rfl, p, _, _, rfl, rfl, upd_same, by omega, by omega, ?_, fun q hq => ?_⟩
  · show 1 * ((k : Int) + 1).toNat ≤ sizeLine
    rw [sizeLine_eq]
    omega
  obtain ⟨c, hc⟩ := cell_is (ns := ns) (k := k) (m := (k : Int) + 1) rfl
  have len2 : (ns.map V.int).length + (List.replicate ((k : Int) + 1).toNat [V.int 0]).flatten.length ≤ sizeLine := by
    rw [rep_ints, List.length_map, List.length_map, List.length_replicate, sizeLine_eq]
    omega
  refine ⟨a, q, _, _, rfl, rfl, ((Same.new hp).trans (Same.new hq)).seq ha, SqL.of upd_same, len2, fun r hr => ?_⟩
  refine ⟨_, rfl, r, _, k, _, rfl, rfl, SqL.of upd_same, hc, ?_⟩
  refine ⟨_, rfl, _, rfl, _, _, rfl, rfl, ⟨by decide, by decide, by decide⟩, _, _, rfl, rfl, .inr ⟨_, rfl, ?_⟩⟩
  refine ⟨_, _, rfl, rfl, .inr ?_, ?_⟩
  · split <;> decide
  refine ⟨_, rfl, .inl ⟨_, rfl, _, _, rfl, rfl, (show (2147483647 : Int) ≠ 0 by decide), ?_⟩⟩
  refine ⟨_, rfl, 7919, _, rfl, rfl, .inl (by decide), _, _, rfl, rfl, ?_⟩
  refine ⟨by show 3 ≤ sizeLine; decide, fun z hz => ?_⟩
  refine kk _ _ ?_ ⟨_, _, _, upd_same⟩ ((((Same.new hp).trans (Same.new hq)).trans (Same.new hr)).trans (Same.new hz))
  exact (((Same.new hp).trans (Same.new hq)).trans (Same.new hr)).free hz
theorem scOne : FnScope ["_law_well_here", "_law_some"] ["_law_well_here", "_law_some"] (defScope sOne) := ⟨rfl, rfl, rfl, by decide +kernel, rfl, by decide +kernel, by decide +kernel⟩
theorem ok_one (F : FnP K "_law_one" sOne f fd) (FD : FnP K "_law_draw" sDraw fD fdD) (gD : mg "_law_draw" = some (.ref fD)) (gI : mg "int" = none) (gL : mg "len" = none) :
    FnOk P w K mg base CX0 2 f fd ["_law_well_here", "_law_some"] (spOne K) := by
  have GD : FnOk P w K mg base CX0 1 fD fdD ["_law_well_here", "_law_much"] spDraw := ok_draw FD gI
  have bD : Binds K fdD ["_law_well_here", "_law_much"] [] := FD.bindsN fun _ _ _ _ _ _ us hl => match us, hl with | [_, _], _ => rfl
  refine F.ok scOne (fun vs H Q E h => ?_) (fun cdv A outer s H vs Q E hr h => ?_)
  · obtain ⟨a, l, xs, rfl, _⟩ := h
    rfl
  refine ⟨_, PSs.nox (pss_one (ps_ret (pe_ix ix_list (pv 1) (pe_call GD hr (by rfl) gD FD.kp bD .nil pass0 (pa_cons (pv 0) (pa_cons (pe_callB call_len_seq (by rfl) gL boot_len (pa_cons (pv 1) pa_nil)) pa_nil))) (fun _ _ => rfl)))), ?_⟩
  obtain ⟨a, l, xs, rfl, wl, ne, hl, x0, x1, k⟩ := h
  refine ⟨_, rfl, _, rfl, _, rfl, l, xs, rfl, .inl (SqL.of hl), ?_⟩
  refine ⟨a, (xs.length : Int), rfl, wl, by omega, by omega, fun H' d d0 d1 w2 bt => ?_⟩
  obtain ⟨x, hx, ex⟩ := atI_some (xs := xs) d0 d1
  exact ⟨l, xs, d, x, rfl, rfl, SqL.of (bt _ _ ne hl), ex, k H' x hx w2 bt⟩
end
end K01

set_option maxRecDepth 100000
set_option maxHeartbeats 4000000
namespace K01
open PySem PySem.Spec PyProof.Rows L2 He VH RZ
abbrev sCal : Stmt := top 20
abbrev FnCal (K : PySem.W.Frag) (fd : FuncData) : Prop := FnP K "_law_checks_all" sCal (ga K "_law_checks_all") fd
/-- a list of tuples of texts -/
def LstT (H : Hp) (l : Addr) (cs : List (List Str)) : Prop := ∃ ps : List Addr, H l = some (.lst (ps.map V.ref)) ∧ ps.length = cs.length ∧ ∀ (i : Nat) (p : Addr) (c : List Str), ps[i]? = some p → cs[i]? = some c → H p = some (.tup (c.map V.str))
theorem LstT.same {H H' : Hp} {l : Addr} {cs : List (List Str)} (h : LstT H l cs) (s : Same H H') : LstT H' l cs := by
  obtain ⟨ps, h1, h2, h3⟩ := h
  exact ⟨ps, s _ _ h1, h2, fun i p c a b => s _ _ (h3 i p c a b)⟩
def spCal : Sp := fun vs H Q _ => vs = [] ∧ ∀ (H' : Hp) (l : Addr), Same H H' → H l = none → LstT H' l (Ls 3) → Q (.ref l) H'
section
variable {P : Program} {w : World} {K : PySem.W.Frag} {mg : Str → Option Value} {base : Heap} {f : Addr} {fd : FuncData}
abbrev nCal : List Str := ["_law_found", "_law_word", "_law_row"]
theorem scCal : FnScope nCal [] (defScope sCal) := ⟨rfl, rfl, rfl, by decide +kernel, rfl, by decide +kernel, by decide +kernel⟩
theorem Ls_len (i : Nat) : (Ls i).length = 2 ^ i := by
  induction i with
  | zero => rfl
  | succ i ih => simp [Ls, ih, Nat.pow_succ]; omega
theorem ok_cal (F : FnP K "_law_checks_all" sCal f fd) : FnOk P w K mg base CX0 1 f fd [] spCal := by
  refine F.ok scCal (fun vs H Q E h => ?_) (fun cdv A outer s H vs Q E hr h => ?_)
  · obtain ⟨rfl, _⟩ := h
    rfl
  refine ⟨_, PSs.nox (pss_cons (ps_set (i := 0) scCal.nd rfl (Or.inl rfl) (pe_lst (pa_cons (pe_tup pa_nil) pa_nil)))
    (pss_cons (ps_for PassesOwn.never rfl (pi_list (pe_lst (pa_cons pe_str (pa_cons pe_str (pa_cons pe_str pa_nil))))) (pg_name (i := 1) scCal.nd rfl (Or.inr rfl))
      (pss_one (ps_set (i := 0) scCal.nd rfl (Or.inl rfl) (pe_op op_cat (pv 0) (pe_lc (own := [("_law_row", 2)]) (g := gName 2) (tt := tYes) (te := tOp (rCatA K) (tVar 2) (tTup (tCons (tVar 1) tNil))) rfl scCal.nd (pi_list (pv 0)) (blkOk_by (N := nCal) (sc := defScope sCal) (by decide +kernel))
        (fun _ _ _ _ _ => pg_name (i := 2) scCal.nd rfl (Or.inl rfl)) (fun _ _ _ _ _ => pts_nil) (fun _ _ _ _ _ => pe_op op_catA (pv 2) (pe_tup (pa_cons (pv 1) pa_nil))))))))
    (pss_one (ps_ret (pv 0))))), ?_⟩
  obtain ⟨rfl, k⟩ := h
  refine ⟨(show 0 ≤ sizeLine by decide), fun t nt => ⟨(show 1 ≤ sizeLine by decide), fun l nl => ?_⟩⟩
  have S0 := (Same.new (o := .tup []) nt).trans (Same.new (o := .lst [.ref t]) nl)
  have L0 : LstT (upd (upd H t (.tup [])) l (.lst [.ref t])) l (Ls 0) := ⟨[t], upd_same, rfl, fun i p c a b => by
    match i, a, b with
    | 0, a, b =>
      cases a
      cases b
      exact (Same.new nl) _ _ upd_same⟩
  have nl0 : H l = none := (Same.new (o := .tup []) nt).free nl
  generalize upd (upd H t (.tup [])) l (.lst [.ref t]) = H1 at S0 L0 ⊢
  refine ⟨(show 3 ≤ sizeLine by decide), fun wl nw => ⟨wl, rfl, ⟨_, SqL.of upd_same⟩, ?_⟩⟩
  have Sw := Same.new (o := .lst [.str "missing", .str "same old", .str "same new"]) nw
  have S1 := S0.trans Sw
  have L1 := L0.same Sw
  have hwl : upd H1 wl (.lst [.str "missing", .str "same old", .str "same new"]) wl = some (.lst [.str "missing", .str "same old", .str "same new"]) := upd_same
  generalize upd H1 wl (.lst [.str "missing", .str "same old", .str "same new"]) = H2 at S1 L1 hwl ⊢
  refine for_list (K := K) (a := wl) (xs := [.str "missing", .str "same old", .str "same new"]) (fun i σ G => ∃ (l : Addr) (v1 v2 : Option V), σ = [some (.ref l), v1, v2] ∧ Same H2 G ∧ H l = none ∧ LstT G l (Ls i))
    ⟨l, _, _, rfl, Same.refl _, nl0, L1⟩ (fun i σ G _ g => ?_) (fun i y σ G hy g => ?_) (fun σ G g => ?_)
  · obtain ⟨_, _, _, _, s2, _, _⟩ := g
    exact SqL.of (s2 _ _ hwl)
  · obtain ⟨l, v1, v2, rfl, s2, nl, L⟩ := g
    have hi : i < 3 := (List.getElem?_eq_some_iff.mp hy).1
    have ey : y = .str (cks.getD i "") := by
      match i, hi, hy with
      | 0, _, hy => cases hy; rfl
      | 1, _, hy => cases hy; rfl
      | 2, _, hy => cases hy; rfl
    subst ey
    have big : 1000 < sizeLine := by decide
    have ln : (Ls i).length ≤ 4 := by
      rw [Ls_len]
      match i, hi with
      | 0, _ => decide
      | 1, _ => decide
      | 2, _ => decide
    have ll : ∀ c ∈ Ls i, c.length ≤ 3 := by
      match i, hi with
      | 0, _ => decide
      | 1, _ => decide
      | 2, _ => decide
    obtain ⟨ps, h1, h2, h3⟩ := L
    refine ⟨_, rfl, _, rfl, l, rfl, ⟨_, SqL.of h1⟩, fun D nD => ?_⟩
    refine lc_list (K := K) (xs := ps.map V.ref) (fun j G' => Same G G' ∧ ∃ qs : List Addr, G' D = some (.lst (qs.map V.ref)) ∧ qs.length = j ∧ ∀ (m : Nat) (p : Addr) (c : List Str), qs[m]? = some p → (Ls i)[m]? = some c → G' p = some (.tup ((c ++ [cks.getD i ""]).map V.str)))
      ⟨Same.new nD, [], upd_same, rfl, fun m p c a => by simp at a⟩ (fun j G' _ g => SqL.of (g.1 _ _ h1)) (fun j x G' hx g => ?_) (fun G' g => ?_)
    · obtain ⟨s3, qs, hD, lq, hq⟩ := g
      rw [List.getElem?_map] at hx
      obtain ⟨p, hp, rfl⟩ := Option.map_eq_some_iff.mp hx
      have lj := (List.getElem?_eq_some_iff.mp hp).1
      have lj2 : j < (Ls i).length := by omega
      have hc : (Ls i)[j]? = some (Ls i)[j] := List.getElem?_eq_getElem lj2
      have hpc := h3 j p _ hp hc
      have lc := ll _ (List.getElem_mem lj2)
      generalize (Ls i)[j] = c at hc hpc lc
      refine ⟨rfl, _, rfl, _, rfl, (show 1 ≤ sizeLine by decide), fun t nt => ?_⟩
      have s4 := s3.trans (Same.new (o := .tup [.str (cks.getD i "")]) nt)
      have hD2 := (Same.new (o := .tup [.str (cks.getD i "")]) nt) _ _ hD
      have ht : upd G' t (.tup [.str (cks.getD i "")]) t = some (.tup [.str (cks.getD i "")]) := upd_same
      have hq2 : ∀ (m : Nat) (p : Addr) (c : List Str), qs[m]? = some p → (Ls i)[m]? = some c → upd G' t (.tup [.str (cks.getD i "")]) p = some (.tup ((c ++ [cks.getD i ""]).map V.str)) := fun m p c a b => (Same.new nt) _ _ (hq m p c a b)
      generalize upd G' t (.tup [.str (cks.getD i "")]) = G2 at s4 hD2 ht hq2 ⊢
      have put : ∀ (G3 : Hp) (r : Addr), Same G2 G3 → G3 r = some (.tup ((c ++ [cks.getD i ""]).map V.str)) → ∃ acc, G3 D = some (.lst acc) ∧ acc.length < sizeLine ∧ Same G (upd G3 D (.lst (acc ++ [.ref r]))) ∧ ∃ qs : List Addr, upd G3 D (.lst (acc ++ [.ref r])) D = some (.lst (qs.map V.ref)) ∧ qs.length = j + 1 ∧
          ∀ (m : Nat) (p : Addr) (c : List Str), qs[m]? = some p → (Ls i)[m]? = some c → upd G3 D (.lst (acc ++ [.ref r])) p = some (.tup ((c ++ [cks.getD i ""]).map V.str)) := fun G3 r s5 hr => by
        have hD3 := s5 _ _ hD2
        refine ⟨_, hD3, ?_, same_put (s4.trans s5) nD, qs ++ [r], ?_, by simp [lq], fun m p' c' a b => ?_⟩
        · rw [List.length_map]
          omega
        · rw [upd_same, List.map_append]
          rfl
        · have off : ∀ {q u}, G3 q = some (.tup u) → upd G3 D (.lst (qs.map V.ref ++ [.ref r])) q = some (.tup u) := fun {q u} e => (upd_ne (fun z => by rw [z, hD3] at e; cases e)).trans e
          by_cases hm : m < qs.length
          · rw [List.getElem?_append_left hm] at a
            exact off (s5 _ _ (hq2 m p' c' a b))
          · have em : m = qs.length := by
              have := (List.getElem?_eq_some_iff.mp a).1
              rw [List.length_append, List.length_singleton] at this
              omega
            rw [em, List.getElem?_append_right (Nat.le_refl _), Nat.sub_self] at a
            cases a
            rw [em, lq, hc] at b
            cases b
            exact off hr
      refine ⟨p, t, _, _, rfl, rfl, SqT.of (s4 _ _ hpc), SqT.of ht, by rw [List.length_map]; simp; omega, fun e => ?_, fun _ e => absurd e (by simp), fun _ _ r nr => ?_⟩
      · have ec : c = [] := List.map_eq_nil_iff.mp e
        subst ec
        exact put G2 t (Same.refl _) ht
      · refine put _ r (Same.new nr) ?_
        rw [upd_same, List.map_append]
        rfl
    · obtain ⟨s3, qs, hD, lq, hq⟩ := g
      rw [List.length_map] at lq
      refine ⟨l, D, _, _, rfl, rfl, s3 _ _ h1, hD, by rw [List.length_map, List.length_map]; omega, fun r nr => ⟨r, _, _, rfl, (s2.trans s3).trans (Same.new nr), ?_, ps ++ qs, ?_, ?_, fun m p c a b => ?_⟩⟩
      · exact (S1.trans (s2.trans s3)).free nr
      · rw [upd_same, List.map_append]
      · simp [Ls, h2, lq]
      · refine (Same.new nr) _ _ ?_
        by_cases hm : m < ps.length
        · rw [List.getElem?_append_left hm] at a
          rw [Ls, List.getElem?_append_left (by omega)] at b
          exact s3 _ _ (h3 m p c a b)
        · rw [List.getElem?_append_right (by omega)] at a
          rw [Ls, List.getElem?_append_right (by omega), List.getElem?_map] at b
          obtain ⟨c', hc', rfl⟩ := Option.map_eq_some_iff.mp b
          rw [← h2] at hc'
          exact hq (m - ps.length) p c' a hc'
  · obtain ⟨l, v1, v2, rfl, s2, nl, L⟩ := g
    exact ⟨_, rfl, k G l (S1.trans s2) nl L⟩
end
end K01

set_option maxRecDepth 100000
set_option maxHeartbeats 4000000
namespace K01
open PySem PySem.Spec PyProof.Rows L2 He VH RZ
/-! all statements, in the law's own order -/
abbrev sStm : Stmt := top 21
abbrev FnStm (K : PySem.W.Frag) (fd : FuncData) : Prop := FnP K "_law_statements" sStm (ga K "_law_statements") fd
theorem bCal {K : PySem.W.Frag} {fd : FuncData} (F : FnCal K fd) : Binds K fd [] [] := FunD.bindsN F fun _ _ _ _ _ _ us hl => match us, hl with | [], _ => rfl
/-- these statements stand in this list -/
inductive GL (H : Hp) : List V → List Stp → Prop
  | nil : GL H [] []
  | cons {p : Addr} {s : Stp} {xs : List V} {ss : List Stp} (a : StAt H p s) (hs : GL H xs ss) : GL H (.ref p :: xs) (s :: ss)
theorem GL.tup {H H' : Hp} (e : ∀ b xs, H b = some (.tup xs) → H' b = some (.tup xs)) : ∀ {xs : List V} {ss : List Stp}, GL H xs ss → GL H' xs ss
  | _, _, .nil => .nil
  | _, _, .cons a hs => .cons (a.same e) (hs.tup e)
theorem GL.app {H : Hp} : ∀ {xs ys : List V} {ss us : List Stp}, GL H xs ss → GL H ys us → GL H (xs ++ ys) (ss ++ us)
  | _, _, _, _, .nil, h => h
  | _, _, _, _, .cons a hs, h => .cons a (hs.app h)
theorem GL.len {H : Hp} : ∀ {xs : List V} {ss : List Stp}, GL H xs ss → xs.length = ss.length
  | _, _, .nil => rfl
  | _, _, .cons _ hs => congrArg Nat.succ hs.len
theorem GL.get {H : Hp} : ∀ {xs : List V} {ss : List Stp}, GL H xs ss → ∀ {i : Nat} {x : V}, xs[i]? = some x → ∃ p s, x = .ref p ∧ ss[i]? = some s ∧ StAt H p s
  | _, _, .nil, _, _, h => by simp at h
  | _, _, .cons a _, 0, x, e => by
    simp at e
    subst e
    exact ⟨_, _, rfl, rfl, a⟩
  | _, _, .cons _ hs, i + 1, x, e => by
    obtain ⟨p, s, h1, h2, h3⟩ := hs.get (i := i) (by simpa using e)
    exact ⟨p, s, h1, by simpa using h2, h3⟩
theorem GL.ats {K : PySem.W.Frag} {H : Hp} : ∀ {xs : List V} {ss : List Stp}, GL H xs ss → Ats K H xs (ss.map Stp.tr)
  | _, _, .nil => .nil
  | _, _, .cons a hs => .cons a.tr hs.ats
theorem GL.take {H : Hp} (n : Nat) : ∀ {xs : List V} {ss : List Stp}, GL H xs ss → GL H (xs.take n) (ss.take n) := by
  induction n with
  | zero => exact fun _ => .nil
  | succ n ih => exact fun h => match h with
    | .nil => .nil
    | .cons a hs => .cons a (ih hs)
theorem GL.one {H : Hp} {p : Addr} {s : Stp} (a : StAt H p s) : GL H [.ref p] [s] := .cons a .nil
def fr4 : List Str := ["none", "now", "read", "copy"]
def ol3 : List Str := ["keep", "input", "read"]
def fr5 : List Str := ["keep", "none", "now", "read", "copy"]
def sDel (c : List Str) : Stp := ⟨"delete", [], c⟩
def sPut (c : List Str) (f : Str) : Stp := ⟨"put", [f], c⟩
def sSet (c : List Str) (m f : Str) : Stp := ⟨"set", [m, f], c⟩
def sIns : List Stp := [⟨"insert", ["none"], []⟩, ⟨"insert", ["now"], []⟩]
def blk (c : List Str) : List Stp := [sDel c] ++ fr4.map (sPut c) ++ ol3.flatMap (fun m => fr5.map (sSet c m))
def allL : List Stp := sIns ++ (Ls 3).flatMap blk
theorem allL_len : allL.length = 162 := by decide +kernel
theorem allL_ok : ∀ s ∈ allL, s.ok = true := by decide +kernel
theorem all_L : ∀ s ∈ allSt, s ∈ allL := by decide +kernel
theorem take_fm {α β : Type} {l : List α} {i : Nat} {c : α} (f : α → List β) (h : l[i]? = some c) : (l.take (i + 1)).flatMap f = (l.take i).flatMap f ++ f c := by
  rw [List.take_succ, h, List.flatMap_append]
  simp
theorem take_mp {α β : Type} {l : List α} {i : Nat} {c : α} (f : α → β) (h : l[i]? = some c) : (l.take (i + 1)).map f = (l.take i).map f ++ [f c] := by
  rw [List.take_succ, h, List.map_append]
  rfl
/-- the checks' tuples stand -/
def Same' (ps : List Addr) (G : Hp) : Prop := ∀ (i : Nat) (p : Addr) (c : List Str), ps[i]? = some p → (Ls 3)[i]? = some c → G p = some (.tup (c.map V.str))
structure SI (H G : Hp) (l cl : Addr) (ps : List Addr) (xs : List V) (ss : List Stp) (n : Nat) : Prop where
  sm : Same H G
  nl : H l = none
  hl : G l = some (.lst xs)
  le : xs.length ≤ n
  gl : GL G xs ss
  hc : G cl = some (.lst (ps.map V.ref))
  cp : Same' ps G
  ne : cl ≠ l
section
variable {H G G' : Hp} {l cl p : Addr} {ps : List Addr} {xs ys : List V} {ss us : List Stp} {n m : Nat} {x : V} {s : Stp}
theorem SI.same (h : SI H G l cl ps xs ss n) (s : Same G G') : SI H G' l cl ps xs ss n :=
  ⟨h.sm.trans s, h.nl, s _ _ h.hl, h.le, h.gl.tup (fun b u e => s _ _ e), s _ _ h.hc, fun i p c a b => s _ _ (h.cp i p c a b), h.ne⟩
theorem SI.mono (h : SI H G l cl ps xs ss n) (e : n ≤ m) : SI H G l cl ps xs ss m := ⟨h.sm, h.nl, h.hl, Nat.le_trans h.le e, h.gl, h.hc, h.cp, h.ne⟩
theorem SI.to (h : SI H G l cl ps xs ss n) (e : ss = us) : SI H G l cl ps xs us n := e ▸ h
theorem SI.app (h : SI H G l cl ps xs ss n) (g : StAt G p s) : SI H (upd G l (.lst (xs ++ [.ref p]))) l cl ps (xs ++ [.ref p]) (ss ++ [s]) (n + 1) := by
  have tup : ∀ b u, G b = some (.tup u) → upd G l (.lst (xs ++ [.ref p])) b = some (.tup u) := fun b u e => (upd_ne (fun z => by rw [z, h.hl] at e; cases e)).trans e
  exact ⟨same_put h.sm h.nl, h.nl, upd_same, by rw [List.length_append]; have := h.le; simp; omega, (h.gl.app (.one g)).tup tup, (upd_ne h.ne).trans h.hc, fun i p c a b => tup _ _ (h.cp i p c a b), h.ne⟩
theorem SI.cat (h : SI H G l cl ps xs ss n) (g : GL G ys us) (np : G p = none) : SI H (upd G p (.lst (xs ++ ys))) p cl ps (xs ++ ys) (ss ++ us) (n + ys.length) := by
  have S := Same.new (o := .lst (xs ++ ys)) np
  refine ⟨h.sm.trans S, h.sm.free np, upd_same, by rw [List.length_append]; have := h.le; omega, (h.gl.app g).tup (fun b u e => S _ _ e), S _ _ h.hc, fun i p c a b => S _ _ (h.cp i p c a b), fun z => ?_⟩
  have := h.hc
  rw [z, np] at this
  cases this
end
def spStm : Sp := fun vs H Q _ => vs = [] ∧ ∀ (H' : Hp) (l : Addr) (xs : List V), Same H H' → H l = none → H' l = some (.lst xs) → GL H' xs allL → Q (.ref l) H'
section
variable {P : Program} {w : World} {K : PySem.W.Frag} {mg : Str → Option Value} {base : Heap} {f : Addr} {fd fdC : FuncData}
abbrev nStm : List Str := ["_law_found", "_law_row", "_law_fresh", "_law_old"]
theorem scStm : FnScope nStm [] (defScope sStm) := ⟨rfl, rfl, rfl, by decide +kernel, rfl, by decide +kernel, by decide +kernel⟩
theorem ok_stm (F : FnP K "_law_statements" sStm f fd) (FC : FnCal K fdC) (mC : mg "_law_checks_all" = some (.ref (ga K "_law_checks_all"))) : FnOk P w K mg base CX0 2 f fd [] spStm := by
  have GC : FnOk P w K mg base CX0 1 (ga K "_law_checks_all") fdC [] spCal := ok_cal FC
  refine F.ok scStm (fun vs H Q E h => ?_) (fun cdv A outer s H vs Q E hr h => ?_)
  · obtain ⟨rfl, _⟩ := h
    rfl
  refine ⟨_, PSs.nox (pss_cons (ps_set (i := 0) scStm.nd rfl (Or.inl rfl) (pe_lst (pa_cons (pe_tup (pa_cons pe_str (pa_cons pe_str pa_nil))) (pa_cons (pe_tup (pa_cons pe_str (pa_cons pe_str pa_nil))) pa_nil))))
     (pss_cons (ps_for PassesOwn.never rfl (pi_list (pe_call0 GC hr (by rfl) mC FC.kp (bCal FC) .nil pass0)) (pg_name (i := 1) scStm.nd rfl (Or.inr rfl)) (pss_cons (ps_expr (pe_bm PySem.F.plainAttrs_list PySem.F.slot_list_append PySem.F.type_list_append mt_append (pv 0) (pa_cons (pe_tup (pa_cons pe_str (pa_cons (pv 1) pa_nil))) pa_nil)))
     (pss_cons (ps_for PassesOwn.never rfl (pi_list (pe_lst (pa_cons pe_str (pa_cons pe_str (pa_cons pe_str (pa_cons pe_str pa_nil)))))) (pg_name (i := 2) scStm.nd rfl (Or.inl rfl)) (pss_one (ps_expr (pe_bm PySem.F.plainAttrs_list PySem.F.slot_list_append PySem.F.type_list_append mt_append (pv 0) (pa_cons (pe_tup (pa_cons pe_str (pa_cons (pv 2) (pa_cons (pv 1) pa_nil)))) pa_nil)))))
     (pss_one (ps_for PassesOwn.never rfl (pi_list (pe_lst (pa_cons pe_str (pa_cons pe_str (pa_cons pe_str pa_nil))))) (pg_name (i := 3) scStm.nd rfl (Or.inr rfl)) (pss_one (ps_set (i := 0) scStm.nd rfl (Or.inl rfl) (pe_op op_cat (pv 0) (pe_lc (own := [("_law_fresh", 2)]) (g := gName 2) (tt := tYes) rfl scStm.nd (pi_list (pe_lst (pa_cons pe_str (pa_cons pe_str (pa_cons pe_str (pa_cons pe_str (pa_cons pe_str pa_nil))))))) (blkOk_by (N := nStm) (sc := defScope sStm) (by decide +kernel)) (fun _ _ _ _ _ => pg_name (i := 2) scStm.nd rfl (Or.inl rfl)) (fun _ _ _ _ _ => pts_nil) (fun _ _ _ _ _ => (pe_tup (pa_cons pe_str (pa_cons (pv 3) (pa_cons (pv 2) (pa_cons (pv 1) pa_nil)))))))))))))))
     (pss_one (ps_ret (pv 0))))), ?_⟩
  obtain ⟨rfl, k⟩ := h
  refine ⟨(show 2 ≤ sizeLine by decide), fun t1 n1 => ⟨(show 2 ≤ sizeLine by decide), fun t2 n2 => ⟨(show 2 ≤ sizeLine by decide), fun l nl => ?_⟩⟩⟩
  have T1 := Same.new (o := .tup [.str "insert", .str "none"]) n1
  have T2 := Same.new (o := .tup [.str "insert", .str "now"]) n2
  have T3 := Same.new (o := .lst [.ref t1, .ref t2]) nl
  have g1 : StAt (upd (upd (upd H t1 (.tup [.str "insert", .str "none"])) t2 (.tup [.str "insert", .str "now"])) l (.lst [.ref t1, .ref t2])) t1 ⟨"insert", ["none"], []⟩ := by
    unfold StAt; rw [if_pos rfl]; exact T3 _ _ (T2 _ _ upd_same)
  have g2 : StAt (upd (upd (upd H t1 (.tup [.str "insert", .str "none"])) t2 (.tup [.str "insert", .str "now"])) l (.lst [.ref t1, .ref t2])) t2 ⟨"insert", ["now"], []⟩ := by
    unfold StAt; rw [if_pos rfl]; exact T3 _ _ upd_same
  have gg : GL (upd (upd (upd H t1 (.tup [.str "insert", .str "none"])) t2 (.tup [.str "insert", .str "now"])) l (.lst [.ref t1, .ref t2])) [.ref t1, .ref t2] sIns := .cons g1 (.one g2)
  have nl0 : H l = none := (T1.trans T2).free nl
  have S0 := (T1.trans T2).trans T3
  have hl : upd (upd (upd H t1 (.tup [.str "insert", .str "none"])) t2 (.tup [.str "insert", .str "now"])) l (.lst [.ref t1, .ref t2]) l = some (.lst [.ref t1, .ref t2]) := upd_same
  clear g1 g2
  generalize upd (upd (upd H t1 (.tup [.str "insert", .str "none"])) t2 (.tup [.str "insert", .str "now"])) l (.lst [.ref t1, .ref t2]) = H1 at S0 hl gg ⊢
  clear T1 T2 T3
  refine ⟨rfl, fun H2 cl S1 ncl hcl => ?_⟩
  have si0 : SI H H2 l cl hcl.choose [.ref t1, .ref t2] (sIns ++ ((Ls 3).take 0).flatMap blk) 2 := ⟨S0.trans S1, nl0, S1 _ _ hl, Nat.le_refl _, gg.tup (fun b u e => S1 _ _ e), hcl.choose_spec.1, hcl.choose_spec.2.2, fun z => by rw [z, hl] at ncl; cases ncl⟩
  have lps := hcl.choose_spec.2.1
  generalize hcl.choose = ps at si0 lps
  refine ⟨cl, rfl, ⟨_, SqL.of si0.hc⟩, ?_⟩
  have len8 : ps.length = 8 := by rw [lps]; decide
  refine for_list (K := K) (a := cl) (xs := ps.map V.ref) (fun i σ G => ∃ (l : Addr) (xs : List V) (v1 v2 v3 : Option V), σ = [some (.ref l), v1, v2, v3] ∧ SI H G l cl ps xs (sIns ++ ((Ls 3).take i).flatMap blk) (2 + 20 * i)) ⟨l, _, _, _, _, rfl, si0⟩
    (fun i σ G _ g => ?_) (fun i y σ G hy g => ?_) (fun σ G g => ?_)
  · obtain ⟨_, _, _, _, _, _, g⟩ := g
    exact SqL.of g.hc
  · obtain ⟨l, xs, v1, v2, v3, rfl, si⟩ := g
    rw [List.getElem?_map] at hy
    obtain ⟨q, hq, rfl⟩ := Option.map_eq_some_iff.mp hy
    have li := (List.getElem?_eq_some_iff.mp hq).1
    have li2 : i < (Ls 3).length := by omega
    have hc : (Ls 3)[i]? = some (Ls 3)[i] := List.getElem?_eq_getElem li2
    generalize (Ls 3)[i] = c at hc
    rw [take_fm blk hc, ← List.append_assoc]
    generalize sIns ++ ((Ls 3).take i).flatMap blk = ss0 at si ⊢
    have big : 1000 < sizeLine := by decide
    have lx := si.le
    have hql := si.cp i q c hq hc
    refine ⟨_, rfl, .inl ⟨rfl, _, SqL.of si.hl⟩, _, rfl, (show 2 ≤ sizeLine by decide), fun t nt => ⟨l, _, _, rfl, rfl, (Same.new nt) _ _ si.hl, by omega, ?_⟩⟩
    have sj := (si.same (Same.new (o := .tup [.str "delete", .ref q]) nt)).app (p := t) (s := sDel c) (by
      unfold StAt
      rw [if_neg (show ¬ (sDel c).w = "insert" from show ¬ ("delete" : Str) = "insert" by decide)]
      exact ⟨q, upd_same, (Same.new nt) _ _ hql⟩)
    generalize upd (upd G t (.tup [.str "delete", .ref q])) l (.lst (xs ++ [.ref t])) = G1 at sj ⊢
    generalize xs ++ [V.ref t] = xs at sj
    clear hql si
    generalize e1 : ss0 ++ [sDel c] = ss1 at sj
    refine ⟨(show 4 ≤ sizeLine by decide), fun wl nw => ⟨wl, rfl, ⟨_, SqL.of upd_same⟩, ?_⟩⟩
    have hw : upd G1 wl (.lst [.str "none", .str "now", .str "read", .str "copy"]) wl = some (.lst [.str "none", .str "now", .str "read", .str "copy"]) := upd_same
    have sk := sj.same (Same.new (o := .lst [.str "none", .str "now", .str "read", .str "copy"]) nw)
    have nwl : wl ≠ l := fun z => by
      have := sj.hl
      rw [← z, nw] at this
      cases this
    generalize upd G1 wl (.lst [.str "none", .str "now", .str "read", .str "copy"]) = G2 at hw sk ⊢
    refine for_list (K := K) (a := wl) (xs := [.str "none", .str "now", .str "read", .str "copy"]) (fun j σ G3 => ∃ (xs : List V) (v2 v3 : Option V), σ = [some (.ref l), some (.ref q), v2, v3] ∧ SI H G3 l cl ps xs (ss1 ++ (fr4.take j).map (sPut c)) (2 + 20 * i + 1 + j) ∧ G3 wl = some (.lst [.str "none", .str "now", .str "read", .str "copy"]))
      ⟨_, _, _, rfl, sk.to (by rw [List.take_zero, List.map_nil, List.append_nil]), hw⟩ (fun j σ G3 _ g => ?_) (fun j y σ G3 hy g => ?_) (fun σ G3 g => ?_)
    · obtain ⟨_, _, _, _, _, g⟩ := g
      exact SqL.of g
    · obtain ⟨xs, v2, v3, rfl, si, hw⟩ := g
      have ey : ∃ z, y = .str z ∧ fr4[j]? = some z := by
        match j, hy with
        | 0, hy => cases hy; exact ⟨_, rfl, rfl⟩
        | 1, hy => cases hy; exact ⟨_, rfl, rfl⟩
        | 2, hy => cases hy; exact ⟨_, rfl, rfl⟩
        | 3, hy => cases hy; exact ⟨_, rfl, rfl⟩
      have lj : j < 4 := (List.getElem?_eq_some_iff.mp hy).1
      obtain ⟨z, rfl, mz⟩ := ey
      have lx := si.le
      have hql := si.cp i q c hq hc
      refine ⟨_, rfl, .inl ⟨rfl, _, SqL.of si.hl⟩, _, rfl, _, rfl, (show 3 ≤ sizeLine by decide), fun t nt => ⟨l, _, _, rfl, rfl, (Same.new nt) _ _ si.hl, by omega, ?_⟩⟩
      refine ⟨_, _, _, rfl, ((si.same (Same.new nt)).app (p := t) (s := sPut c z) (by
        unfold StAt
        rw [if_neg (show ¬ (sPut c z).w = "insert" from show ¬ ("put" : Str) = "insert" by decide)]
        exact ⟨q, upd_same, (Same.new nt) _ _ hql⟩)).to (by rw [take_mp _ mz, List.append_assoc]), ?_⟩
      exact (upd_ne nwl).trans ((Same.new nt) _ _ hw)
    · obtain ⟨xs, v2, v3, rfl, si, _⟩ := g
      have si : SI H G3 l cl ps xs (ss1 ++ fr4.map (sPut c)) (2 + 20 * i + 5) := si
      generalize e2 : ss1 ++ fr4.map (sPut c) = ss2 at si
      refine ⟨(show 3 ≤ sizeLine by decide), fun wl nw => ⟨wl, rfl, ⟨_, SqL.of upd_same⟩, ?_⟩⟩
      have hw : upd G3 wl (.lst [.str "keep", .str "input", .str "read"]) wl = some (.lst [.str "keep", .str "input", .str "read"]) := upd_same
      have sk := si.same (Same.new (o := .lst [.str "keep", .str "input", .str "read"]) nw)
      generalize upd G3 wl (.lst [.str "keep", .str "input", .str "read"]) = G4 at hw sk ⊢
      refine for_list (K := K) (a := wl) (xs := [.str "keep", .str "input", .str "read"]) (fun j σ G3 => ∃ (l : Addr) (xs : List V) (v2 v3 : Option V), σ = [some (.ref l), some (.ref q), v2, v3] ∧ SI H G3 l cl ps xs (ss2 ++ (ol3.take j).flatMap (fun m => fr5.map (sSet c m))) (2 + 20 * i + 5 + 5 * j) ∧ G3 wl = some (.lst [.str "keep", .str "input", .str "read"]))
        ⟨l, _, _, _, rfl, sk.to (by rw [List.take_zero, List.flatMap_nil, List.append_nil]), hw⟩ (fun j σ G3 _ g => ?_) (fun j y σ G5 hy g => ?_) (fun σ G5 g => ?_)
      · obtain ⟨_, _, _, _, _, _, g⟩ := g
        exact SqL.of g
      · obtain ⟨l, xs, v2, v3, rfl, si, hw⟩ := g
        have ey : ∃ z, y = .str z ∧ ol3[j]? = some z := by
          match j, hy with
          | 0, hy => cases hy; exact ⟨_, rfl, rfl⟩
          | 1, hy => cases hy; exact ⟨_, rfl, rfl⟩
          | 2, hy => cases hy; exact ⟨_, rfl, rfl⟩
        have lj : j < 3 := (List.getElem?_eq_some_iff.mp hy).1
        obtain ⟨m, rfl, mm⟩ := ey
        rw [take_fm _ mm, ← List.append_assoc]
        generalize ss2 ++ (ol3.take j).flatMap (fun m => fr5.map (sSet c m)) = ss3 at si
        refine ⟨_, rfl, (show 5 ≤ sizeLine by decide), fun w5 n5 => ⟨w5, rfl, ⟨_, SqL.of upd_same⟩, fun D nD => ?_⟩⟩
        have h5 : upd G5 w5 (.lst [.str "keep", .str "none", .str "now", .str "read", .str "copy"]) w5 = some (.lst [.str "keep", .str "none", .str "now", .str "read", .str "copy"]) := upd_same
        have s5 := si.same (Same.new (o := .lst [.str "keep", .str "none", .str "now", .str "read", .str "copy"]) n5)
        have hw5 := (Same.new (o := .lst [.str "keep", .str "none", .str "now", .str "read", .str "copy"]) n5) _ _ hw
        generalize upd G5 w5 (.lst [.str "keep", .str "none", .str "now", .str "read", .str "copy"]) = G6 at h5 s5 hw5 nD ⊢
        refine lc_list (K := K) (xs := [.str "keep", .str "none", .str "now", .str "read", .str "copy"]) (fun n G' => Same G6 G' ∧ ∃ ys : List V, G' D = some (.lst ys) ∧ ys.length = n ∧ GL G' ys ((fr5.take n).map (sSet c m)))
          ⟨Same.new nD, [], upd_same, rfl, .nil⟩ (fun n G' _ g => SqL.of (g.1 _ _ h5)) (fun n x G' hx g => ?_) (fun G' g => ?_)
        · obtain ⟨s3, ys, hD, ly, gy⟩ := g
          have ex : ∃ z, x = .str z ∧ fr5[n]? = some z := by
            match n, hx with
            | 0, hx => cases hx; exact ⟨_, rfl, rfl⟩
            | 1, hx => cases hx; exact ⟨_, rfl, rfl⟩
            | 2, hx => cases hx; exact ⟨_, rfl, rfl⟩
            | 3, hx => cases hx; exact ⟨_, rfl, rfl⟩
            | 4, hx => cases hx; exact ⟨_, rfl, rfl⟩
          have ln : n < 5 := (List.getElem?_eq_some_iff.mp hx).1
          obtain ⟨z, rfl, mz⟩ := ex
          have hql := s3 _ _ (s5.cp i q c hq hc)
          refine ⟨rfl, _, rfl, _, rfl, _, rfl, (show 4 ≤ sizeLine by decide), fun t nt => ?_⟩
          have S := Same.new (o := .tup [.str "set", .str m, .str z, .ref q]) nt
          have hD2 := S _ _ hD
          have ht : upd G' t (.tup [.str "set", .str m, .str z, .ref q]) t = some (.tup [.str "set", .str m, .str z, .ref q]) := upd_same
          have gt : StAt (upd G' t (.tup [.str "set", .str m, .str z, .ref q])) t (sSet c m z) := by
            unfold StAt
            rw [if_neg (show ¬ (sSet c m z).w = "insert" from show ¬ ("set" : Str) = "insert" by decide)]
            exact ⟨q, ht, S _ _ hql⟩
          refine ⟨_, hD2, by omega, same_put (s3.trans S) nD, ys ++ [.ref t], upd_same, by simp [ly], ?_⟩
          have tup : ∀ b u, upd G' t (.tup [.str "set", .str m, .str z, .ref q]) b = some (.tup u) → upd (upd G' t (.tup [.str "set", .str m, .str z, .ref q])) D (.lst (ys ++ [.ref t])) b = some (.tup u) := fun b u e => (upd_ne (fun w => by rw [w, hD2] at e; cases e)).trans e
          rw [take_mp _ mz]
          exact ((gy.tup (fun b u e => S _ _ e)).app (.one gt)).tup tup
        · obtain ⟨s3, ys, hD, ly, gy⟩ := g
          have gy : GL G' ys (fr5.map (sSet c m)) := gy
          have s6 := s5.same s3
          have ly5 : ys.length = 5 := ly
          have lx := s6.le
          refine ⟨l, D, _, _, rfl, rfl, s6.hl, hD, by omega, fun r nr => ⟨r, _, _, _, rfl, (s6.cat gy nr).mono (by omega), (Same.new nr) _ _ (s3 _ _ hw5)⟩⟩
      · obtain ⟨l, xs, v1, v2, rfl, si, _⟩ := g
        have si : SI H G5 l cl ps xs (ss2 ++ ol3.flatMap (fun m => fr5.map (sSet c m))) (2 + 20 * i + 5 + 5 * 3) := si
        exact ⟨l, xs, _, _, _, rfl, (si.to (by rw [← e2, ← e1]; unfold blk; simp only [List.append_assoc])).mono (by show 2 + 20 * i + 5 + 5 * 3 ≤ 2 + 20 * (i + 1); omega)⟩
  · obtain ⟨l, xs, v1, v2, v3, rfl, si⟩ := g
    have e8 : (Ls 3).take (ps.map V.ref).length = Ls 3 := by rw [List.length_map, lps, List.take_length]
    rw [e8] at si
    exact ⟨_, rfl, k G l xs si.sm si.nl si.hl si.gl⟩
end
end K01

set_option maxRecDepth 100000
set_option maxHeartbeats 4000000
/-! try with several except clauses, each with a name or without. -/
namespace L2
open PySem PySem.Spec PyProof.Rows
/-- a clause: its class, the slot of its name, its suite's reading -/
abbrev Clause : Type := Value × Option Nat × (Addr → Value → Option Addr → TS)
def Ends.drop (D : Ends) (i : Nat) : Ends := { nx := fun σ H => D.nx (σ.set i none) H, rt := D.rt, bk := fun σ H => D.bk (σ.set i none) H, ct := fun σ H => D.ct (σ.set i none) H }
def Clause.go (q : Clause) (a : Addr) (cls : Value) (d : Option Addr) (D : Ends) (σ : St) (H : Hp) : Prop := match q.2.1 with
  | none => q.2.2 a cls d D σ H
  | some i => q.2.2 a cls d (D.drop i) (σ.set i (some (.ref a))) H
/-- what the clauses wish, one behind another -/
def wMix (K : PySem.W.Frag) (Wout : WX) (D : Ends) : List Clause → WX
  | [] => Wout
  | q :: r => fun cls d σ H => ∃ b, PySem.W.exmOne K cls q.1 = some b ∧ (b = true → ∀ a, H a = none → q.go a cls d D σ H) ∧ (b = false → wMix K Wout D r cls d σ H)
inductive MixOk (X : Cx) : List ExceptHandler → List Clause → Prop
  | nil : MixOk X [] []
  | bare {x : Str} {c : Value} {ts : Addr → Value → Option Addr → TS} {st : Stmt} {more : List Stmt} {p1 p2 : Pos} {hs : List ExceptHandler} {l : List Clause} (hc : Names X x c)
      (su : ∀ (a : Addr) (oe : Obj) (cls : Value) (d : Option Addr) (pn : List (Addr × Obj)), Zc cls d oe → (∃ vs, oe.data = .fields vs) → PSs (X.suite a ((a, oe) :: pn)) (st :: more) (ts a cls d)) (r : MixOk X hs l) :
      MixOk X (.ExceptHandler (some (.Name x p1)) none (st :: more) p2 :: hs) ((c, none, ts) :: l)
  | named {x n : Str} {i : Nat} {c : Value} {ts : Addr → Value → Option Addr → TS} {st : Stmt} {more : List Stmt} {p1 p2 : Pos} {hs : List ExceptHandler} {l : List Clause} (hN : X.N.Nodup) (hi : X.N[i]? = some n) (hl : X.env.kindOf n = some .local) (hc : Names X x c)
      (su : ∀ (a : Addr) (oe : Obj) (cls : Value) (d : Option Addr) (pn : List (Addr × Obj)), Zc cls d oe → (∃ vs, oe.data = .fields vs) → PSs (X.suite a ((a, oe) :: pn)) (st :: more) (ts a cls d)) (r : MixOk X hs l) :
      MixOk X (.ExceptHandler (some (.Name x p1)) (some n) (st :: more) p2 :: hs) ((c, some i, ts) :: l)
section
variable {X : Cx} {body : List Stmt} {k0 : ExceptHandler} {ks : List ExceptHandler} {l : List Clause} {pos : Pos} {tb : WX → TS} {Wout : WX}
theorem ps_try_mix (hst : X.stack = X.env :: X.outer) (hfr : X.env.frame = some X.env.locals) (tk : Takes X Wout)
    (hb : ∀ (W : WX) (pn : List (Addr × Obj)) (xe : Value → Shared → Prop), Takes (X.tr pn xe) W → PassesOwn (model X.prog X.w) X.A X.env xe → PSs (X.tr pn xe) body (tb W))
    (hk : MixOk X (k0 :: ks) l) : PS X (.Try body (k0 :: ks) [] [] pos) (fun D σ H => tb (wMix X.K Wout D l) D σ H) := by
  refine ⟨fun pins s σ H D I h => ?_⟩
  have good := I.ok
  have fr : X.A.frames = some (X.env :: X.outer) := by
    rw [good.frames, hst]
  refine wpAny_Try_except ?_
  refine wpAny_mono ((hb (wMix X.K Wout D l) (X.pn ++ pins) (fun e z1 => wpAny (model X.prog X.w) X.A (noteFrame e X.env) (fun _ z2 => wpAny (model X.prog X.w) X.A (setFlight e none)
    (fun _ z3 => wpAny (model X.prog X.w) X.A (handleBy e X.env (k0 :: ks)) (SP X pins D) X.xe z3) X.xe z2) X.xe z1) (fun u s' air => ?_) PassesOwn.looking).run [] s σ H D (I.toTry _) h)
    (fun f z hz => ?_) (fun e z hz => hz)
  · obtain ⟨a, B, sB, qs, ρ, G, cls, d, rfl, J0, inB, ups, sky, nG, eos, bare, wish⟩ := air
    have J : Inv X pins ρ G sB := J0.ofTry good
    have sk : Sky B (X.env :: X.outer) a (Zc cls d) X.env.locals s'.heap := by
      rw [← hst]
      exact sky
    show wpAny (model X.prog X.w) X.A (noteFrame (Value.ref a) X.env) _ _ _
    refine Sky.land Zc.steady fr hfr sk fun g3 fly up3 => ?_
    have J3 : Inv X pins ρ G { s' with heap := g3 } := J.landed inB fly.1 (ups.trans up3) eos bare
    obtain ⟨o3, v3, at3, z3, d3⟩ := fly.there
    have away : a ∉ frs (X.env :: X.outer) := fun hm => by
      obtain ⟨_, o', e', no⟩ := fly.2.2.1.mem hm
      rw [at3] at e'
      cases e'
      exact no _ d3
    have nL : a ≠ X.env.locals := fun z => away (List.mem_filterMap.mpr ⟨X.env, List.mem_cons_self, by
      rw [hfr, z]⟩)
    have nF : a ∉ X.fs := fun hm => by
      obtain ⟨e, he, q⟩ := List.mem_filterMap.mp hm
      exact away (List.mem_filterMap.mpr ⟨e, List.mem_cons_of_mem _ he, q⟩)
    have S3 := J3.suite at3 d3 nG nL nF
    have isC : PySem.W.Looks (model X.prog X.w) g3 (typeOf (.ref a)) cls := fun A Q E s k q => wpAny_typeOf_ref (k _ _ at3) (by
      rw [z3.1]
      exact q)
    have name : ∀ {x : Str} {c : Value} {p1 : Pos} {Q : Value → Shared → Prop} {E : Value → Shared → Prop}, Names X x c → Q c { s' with heap := g3 } → wpAny (model X.prog X.w) (X.A.mark (some (.ref a))) (eval (.Name x p1) X.env) Q E { s' with heap := g3 } := fun {x c p1 Q E} hc q => by
      obtain ⟨w1, w2, w3 | ⟨w3, w4, w5⟩⟩ := hc
      · exact ld_glob (X := X.suite a ((a, o3) :: (X.pn ++ pins))) S3 w1 w3 q w2
      · exact ld_blt (X := X.suite a ((a, o3) :: (X.pn ++ pins))) S3 w1 w3 w4 q w5 w2
    have go : ∀ {hs' : List ExceptHandler} {l' : List Clause}, MixOk X hs' l' → wMix X.K Wout D l' cls d ρ G → wpAny (model X.prog X.w) X.A (handleBy (.ref a) X.env hs') (SP X pins D) X.xe { s' with heap := g3 } := by
      intro hs' l' m
      induction m with
      | nil =>
        intro w
        refine wpAny_handleBy_nil ?_
        obtain ⟨_, _, _, oe, vs, tb', _, _, he, _, hd, h1, _⟩ := id fly
        unfold PySem.passOn
        refine wpAny_bind (wpAny_field he hd h1 ?_)
        rw [if_neg (show ¬ ((Value.ref tb' == Value.none) = true) by simp)]
        have out : wpAny (model X.prog X.w) X.A (setFlight (.ref a) X.env.frame) (fun _ z4 => wpAny (model X.prog X.w) X.A (throw (.ref a) : Sem Flow) (SP X pins D) X.xe z4) X.xe { s' with heap := g3 } := by
          rw [hfr]
          refine HandSPX.setFlight_upZ fly fun h4 held up4 => wpAny_throw (tk _ _ ?_)
          exact ⟨a, B, sB, pins, ρ, G, cls, d, rfl, J, inB, (ups.trans up3).trans up4, .inr (.inr (by
            rw [hst]
            exact held)), nG, eos, bare, w⟩
        first
          | exact wpAny_bind (wpAny_pure (wpAny_bind out))
          | exact wpAny_bind out
      | @bare x c ts st more p1 p2 hs2 l2 hc su r ih =>
        intro w
        obtain ⟨b, e1, yes, no⟩ := w
        refine wpAny_handleBy_cons (codeAny_handlers_test ?_) (by
          intro q
          cases q)
        refine name hc ((PySem.W.exm_one (M := model X.prog X.w) J3.kIn isC e1).here ?_)
        cases b with
        | true =>
          refine codeAny_handlers_suite ?_
          refine HandSPX.lands_againZ fly fun g4 fly4 up4 => ?_
          have J4 : Inv X pins ρ G { s' with heap := g4 } := J.landed inB fly4.1 ((ups.trans up3).trans up4) eos bare
          obtain ⟨o4, v4, at4, z4, d4⟩ := fly4.there
          refine wpAny_mono ((su a o4 cls d (X.pn ++ pins) z4 ⟨_, d4⟩).run [] _ _ G _ (J4.suite at4 d4 nG nL nF) (yes rfl a nG)) (fun f z6 hsp => ?_) (fun _ _ z => False.elim z)
          cases f with
          | ret u =>
            obtain ⟨v6, ρ6, G6, S6, r6, q6⟩ := hsp
            exact ⟨_, _, _, S6.unsuite good, r6, q6⟩
          | _ =>
            obtain ⟨ρ6, G6, S6, q6⟩ := hsp
            exact ⟨_, _, S6.unsuite good, q6⟩
        | false =>
          show wpAny _ X.A (handleBy (.ref a) X.env hs2) _ _ _
          exact ih (no rfl)
      | @named x n i c ts st more p1 p2 hs2 l2 hN hi hl hc su r ih =>
        intro w
        obtain ⟨b, e1, yes, no⟩ := w
        have loc : Loc X.env.scope n := .inl hl
        refine wpAny_handleBy_cons (codeAny_handlers_test ?_) (by
          intro q
          cases q)
        refine name hc ((PySem.W.exm_one (M := model X.prog X.w) J3.kIn isC e1).here ?_)
        cases b with
        | true =>
          refine codeAny_handlers_suite_as ?_
          refine HandSPX.lands_againZ fly fun g4 fly4 up4 => ?_
          have J4 : Inv X pins ρ G { s' with heap := g4 } := J.landed inB fly4.1 ((ups.trans up3).trans up4) eos bare
          obtain ⟨o4, v4, at4, z4, d4⟩ := fly4.there
          refine store_ok (X := X.suite a ((a, o4) :: (X.pn ++ pins))) (v := V.ref a) (J4.suite at4 d4 nG nL nF) hN hi loc rfl (fun z5 S5 => ?_) (.inr hl)
          refine wpAny_mono ((su a o4 cls d (X.pn ++ pins) z4 ⟨_, d4⟩).run [] z5 _ G _ S5 (yes rfl a nG)) (fun f z6 hsp => ?_) (fun _ _ z => False.elim z)
          have goes : ∀ {ρ6 : St} {G6 : Hp} {Q : Shared → Prop}, Inv (X.suite a ((a, o4) :: (X.pn ++ pins))) [] ρ6 G6 z6 → (∀ z7, Inv X pins (ρ6.set i none) G6 z7 → Q z7) →
              wpAny (model X.prog X.w) X.A (do bindName X.env n .none; unbindBehindTheSuite X.env n p2) (fun _ z7 => Q z7) X.xe z6 := fun S6 hq => gone_ok (S6.unsuite good) hN hi hl hq
          cases f with
          | ret u =>
            obtain ⟨v6, ρ6, G6, S6, r6, q6⟩ := hsp
            exact goes S6 fun z7 J7 => ⟨_, _, _, J7, r6, q6⟩
          | _ =>
            obtain ⟨ρ6, G6, S6, q6⟩ := hsp
            exact goes S6 fun z7 J7 => ⟨_, _, J7, q6⟩
        | false =>
          show wpAny _ X.A (handleBy (.ref a) X.env hs2) _ _ _
          exact ih (no rfl)
    exact go hk wish
  · cases f with
    | next =>
      obtain ⟨ρ, G, J0, q⟩ := hz
      exact wpAny_execs_nil ⟨ρ, G, J0.ofTry good, q⟩
    | ret u =>
      obtain ⟨v, ρ, G, J0, r, q⟩ := hz
      exact ⟨v, ρ, G, J0.ofTry good, r, q⟩
    | _ =>
      obtain ⟨ρ, G, J0, q⟩ := hz
      exact ⟨ρ, G, J0.ofTry good, q⟩
end
/-- isinstance(e, c) in a suite, e the exception that it holds, with a dict of its own -/
def rIsD (K : PySem.W.Frag) (a : Addr) (cls : Value) (d : Option Addr) : List V → Hp → VK → Prop := fun xs H Q => ∃ (D dd : Addr) (fs : List (Str × V)) (c : V) (cv : Value) (b : Bool), xs = [.ref a, c] ∧ cls = .ref D ∧ d = some dd ∧ H dd = some (.xd fs) ∧ ExcC K D ∧ (∀ u, RelV c u → u = cv) ∧
  PySem.W.kitOne K (.ref D) cv = some b ∧ Q (.bl b) H
theorem call_isD {X : Cx} {a : Addr} {oe : Obj} {cls : Value} {d : Option Addr} {pn : List (Addr × Obj)} (hz : Zc cls d oe) (hf : ∃ vs, oe.data = .fields vs) : CallR (X.suite a ((a, oe) :: pn)) (.builtin "isinstance") (rIsD X.K a cls d) := by
  intro pins s σ H xs us Q I r h
  obtain ⟨D, dd, fs, c, cv, b, rfl, rfl, rfl, hd, C, hcv, e, q⟩ := h
  obtain ⟨u, v, rfl, ru, rv⟩ := vals2 r
  obtain rfl : u = Value.ref a := ru
  obtain rfl := hcv _ rv
  obtain ⟨at_, _⟩ := I.pin (a, oe) (List.mem_append_left _ List.mem_cons_self)
  obtain ⟨vs, hv⟩ := hf
  obtain ⟨mA, ns, _⟩ := (show ObjOk X.prog X.w H s.heap dd (.xd fs) from I.hok dd _ hd)
  obtain ⟨od, eo, _⟩ := lookIn_ns ns
  have J : PySem.W.InstAt s.heap a oe D (some od) := by
    refine ⟨at_, hz.1, ?_, ?_⟩
    · unfold PySem.W.notCls
      rw [hv]
    · rw [hz.2]
      exact eo
  exact PySem.W.kia_one (PySem.W.vx_kit C) I.kIn ⟨oe, some od, J⟩ e (fun z => nomatch z) fun tk => ⟨.bl b, H, I.kept (t' := tk) fun _ _ z => z, rfl, q⟩
end L2

set_option maxRecDepth 100000
set_option maxHeartbeats 4000000
/-! A def that hands back a word and what its argument returns, or what its except clauses say: called with a lambda. -/
namespace LamX
open PySem PySem.Spec PyProof.Rows L2
theorem takes_len {X : Cx} {W : WX} (tk : Takes X W) : Takes X (fun cls d σ H => σ.length = X.N.length → W cls d σ H) := fun u s' h => by
  obtain ⟨a, B, sI, pins, σ, H, cls, d, e, I, k1, k2, k3, k4, k5, k6, k7⟩ := h
  exact tk u s' ⟨a, B, sI, pins, σ, H, cls, d, e, I, k1, k2, k3, k4, k5, k6, k7 I.len⟩
theorem takes_no {X : Cx} : Takes X (fun _ _ _ _ => False) := fun u s' h => by
  obtain ⟨_, _, _, _, _, _, _, _, _, _, _, _, _, _, _, _, z⟩ := h
  exact z.elim
/-- what is asked of the lambda -/
def TTmix (K : PySem.W.Frag) (n : Nat) (l : List Clause) (told : Str) : (XK → Hp → VK → Prop) → Hp → VK → Prop := fun tl H Q =>
  tl (fun cls d H' => ∀ σ' : L2.St, σ'.length = n → wMix K (fun _ _ _ _ => False) { nx := fun _ H' => Q V.non H', rt := Q } l cls d σ' H') H
    (fun v H1 => ([.str told, v] : List V).length ≤ sizeLine ∧ ∀ p, H1 p = none → Q (.ref p) (upd H1 p (.tup [.str told, v])))
theorem said_gives {X : Cx} {Ng : List Str} {x a q told : Str} {sg : Scope} {g : Addr} {cdg : Value} {j : Nat} {k0 : ExceptHandler} {ks : List ExceptHandler} {l : List Clause} {p1 p2 p3 p4 p5 p6 : Pos} {x1 : Nat}
    (hs : ∀ f : Addr, (L2.start Ng [V.ref f])[0]? = some (some (V.ref f)))
    (hk : ∀ (s : Shared) (H : Hp), MixOk (cxOf C8.CX0 X.prog X.w X.K X.mg X.base Ng x sg g cdg X.A X.stack s H C8.E0).nox (k0 :: ks) l) :
    GivesTo X Ng x sg g cdg [.Try [.Return (some (.Tuple [.Constant (.str told) j p1, .Call (.Name a p2) [] [] p3] x1 p4)) p5] (k0 :: ks) [] [] p6] a q (TTmix X.K Ng.length l told) := by
  intro f c' s H Q tl act hc tt
  refine ⟨_, pss_one (ps_try_mix (Wout := fun _ _ _ _ => False) (l := l) rfl rfl takes_no
    (fun W pn xe tk _ => pss_one (ps_ret (pe_tup (pa_cons pe_str (pa_cons (act (fun cls d σ H => σ.length = Ng.length → W cls d σ H) pn xe (fun cls d H' => ∀ σ' : L2.St, σ'.length = Ng.length → W cls d σ' H') p2 p3 (takes_len tk) (fun cls d σ' H' h e => h σ' e)) pa_nil)))))
    (hk s H)), ?_⟩
  exact ⟨hs f, hc, tt⟩
end LamX

set_option maxRecDepth 100000
set_option maxHeartbeats 4000000
/-! A def that calls its argument for its refusals alone: a word of the except clauses, or the word behind the try. -/
namespace LamX
open PySem PySem.Spec PyProof.Rows L2
/-- what is asked of the lambda -/
def TTsay (K : PySem.W.Frag) (n : Nat) (l : List Clause) (ret : Str) : (XK → Hp → VK → Prop) → Hp → VK → Prop := fun tl H Q =>
  tl (fun cls d H' => ∀ σ' : L2.St, σ'.length = n → wMix K (fun _ _ _ _ => False) { nx := fun _ H' => Q (V.str ret) H', rt := Q } l cls d σ' H') H (fun _ H1 => Q (V.str ret) H1)
theorem say_gives {X : Cx} {Ng : List Str} {x a q ret : Str} {sg : Scope} {g : Addr} {cdg : Value} {j : Nat} {k0 : ExceptHandler} {ks : List ExceptHandler} {l : List Clause} {p1 p2 p3 p4 p5 p6 : Pos}
    (hs : ∀ f : Addr, (L2.start Ng [V.ref f])[0]? = some (some (V.ref f)))
    (hk : ∀ (s : Shared) (H : Hp), MixOk (cxOf C8.CX0 X.prog X.w X.K X.mg X.base Ng x sg g cdg X.A X.stack s H C8.E0).nox (k0 :: ks) l) :
    GivesTo X Ng x sg g cdg [.Try [.Expr (.Call (.Name a p2) [] [] p3) p5] (k0 :: ks) [] [] p6, .Return (some (.Constant (.str ret) j p1)) p4] a q (TTsay X.K Ng.length l ret) := by
  intro f c' s H Q tl act hc tt
  refine ⟨_, pss_cons (ps_try_mix (Wout := fun _ _ _ _ => False) (l := l) rfl rfl takes_no
    (fun W pn xe tk _ => pss_one (ps_expr (act (fun cls d σ H => σ.length = Ng.length → W cls d σ H) pn xe (fun cls d H' => ∀ σ' : L2.St, σ'.length = Ng.length → W cls d σ' H') p2 p3 (takes_len tk) (fun cls d σ' H' h e => h σ' e))))
    (hk s H)) (pss_one (ps_ret pe_str)), ?_⟩
  exact ⟨hs f, hc, tt⟩
end LamX

set_option maxRecDepth 100000
set_option maxHeartbeats 4000000
/-! A lambda with one parameter: its frame, and its call by what a parameter of another def holds. -/
namespace LamX
open PySem PySem.Spec PyProof.Rows L2
/-- captured names, globals and the one parameter q -/
structure Lam1 (q : Str) (sc scope : Scope) : Prop where
  kd : scope.kind = .function
  nc : scope.isCoroutine = false
  ng : scope.isGenerator = false
  cellfree : ∀ y ∈ scope.names, y.2 ≠ .cell
  only : ∀ y, scope.names.lookup y = some .local → y = q
  par : scope.names.lookup q = some .local
  up : ∀ y ∈ scope.names, y.2 = .free → sc.names.lookup y.1 = some .cell ∨ sc.names.lookup y.1 = some .free
def lam1B (q : Str) (sc scope : Scope) : Bool :=
  decide (scope.kind = .function) && (!scope.isCoroutine && (!scope.isGenerator && (decide (scope.names.lookup q = some .local) &&
    (scope.names.all fun y => !decide (y.2 = .cell) && ((!decide (y.2 = .local) || decide (y.1 = q)) && (!decide (y.2 = .free) || (decide (sc.names.lookup y.1 = some .cell) || decide (sc.names.lookup y.1 = some .free))))))))
theorem lam1_by {q : Str} {sc scope : Scope} (h : lam1B q sc scope = true) : Lam1 q sc scope := by
  simp only [lam1B, Bool.and_eq_true, Bool.or_eq_true, Bool.not_eq_true', decide_eq_true_eq, decide_eq_false_iff_not, List.all_eq_true] at h
  obtain ⟨a1, a2, a3, a4, a5⟩ := h
  refine ⟨a1, a2, a3, fun y hy => (a5 y hy).1, fun y e => ?_, a4, fun y hy e => ?_⟩
  · rcases (a5 _ (PySem.mem_of_lookup e)).2.1 with z | z
    · exact absurd rfl z
    · exact z
  · rcases (a5 y hy).2.2 with z | z
    · exact absurd e z
    · exact z
theorem Lam1.cells {q : Str} {X : Cx} {scope : Scope} (L : Lam1 q X.env.scope scope) (ok : X.Ok) (y : Str × NameKind) (hy : y ∈ scope.names) (e : y.2 = .free) : ∃ c, X.env.cells.lookup y.1 = some c :=
  (L.up y hy e).elim (fun k => ok.has _ (.inl k)) (fun k => ok.has _ (.inr k))
section
variable {X : Cx} {pins : List (Addr × Obj)} {σ : L2.St} {H HZ : Hp} {s s1 : Shared}
/-- the frame of the lambda, just entered -/
theorem lam1_start {A : Around} {outer : List Env} {E : XK} {scope : Scope} {f c' : Addr} {h₁ : Heap} {tk : Nat} {q : Str} {i : Nat} {x : V} {u : Value}
    (I : Inv X pins σ H s) (L : Lam1 q X.env.scope scope) (nd : X.N.Nodup) (hi : X.N[i]? = some q) (rx : L2.RelV x u) (e0 : Env0 X.prog X.w X.K X.mg X.base A outer s1 HZ)
    (hd : A.handled = none) (un : Un (frs X.stack) [] H HZ s.heap s1.heap) (hns : h₁.Ns s1.heap.objs.size fun y => ([(q, u)] : List (Str × Value)).reverse.lookup y)
    (kp : ∀ b o, s1.heap.get? b = some o → h₁.get? b = some o) : Inv (lamCx X A outer s1 HZ E scope f c') [] (σ.set i (some x)) HZ { s1 with heap := h₁, toks := tk } := by
  have own : ∀ {y : Str}, scope.names.lookup y = some .free → ∃ c, (cloFrom X.env.cells scope.names []).lookup y = some c := fun {y} hl =>
    mem_lookup (cloFrom_has (cells := X.env.cells) (acc := []) (show (y, NameKind.free) ∈ scope.names from PySem.mem_of_lookup hl))
  have src : ∀ {y : Str} {c : Addr}, (cloFrom X.env.cells scope.names []).lookup y = some c → X.env.cells.lookup y = some c := fun {y c} e => by
    rcases cloFrom_mem (PySem.mem_of_lookup e) with z | ⟨m, z⟩
    · cases z
    · obtain ⟨c1, z1⟩ := L.cells I.ok _ m rfl
      have z2 : X.env.cells.lookup y = some c1 := z1
      rw [z2] at z
      rw [z2, z]
      rfl
  have still : ∀ {c : Addr} {v : Option Value}, H c = none → s.heap.IsCell c v → h₁.IsCell c v := fun {c v} n z => by
    obtain ⟨o, ho, hv⟩ := z
    obtain ⟨sl, z2⟩ := un.any ho n (by simp)
    exact ⟨_, kp _ _ z2, hv⟩
  have nx : ∀ b : Addr, b ∉ (lamCx X A outer s1 HZ E scope f c').ex := fun b z => absurd (show b ∈ ([] : List Addr) from z) (by simp)
  have okL : (lamCx X A outer s1 HZ E scope f c').Ok := by
    refine ⟨e0.mod, L.kd, rfl, rfl, Nat.le_refl _, fun y z c a b => I.ok.inj y z c (src a) (src b), fun y hy => ?_, fun y c z _ => Bool.noConfusion (show false = true from z), fun _ => hd, Around.frames_deeper e0.frames,
      .inr ⟨rfl, rfl⟩, fun b z => absurd z (nx b), e0.bs, e0.bsz, fun b _ _ => nx b, fun b z => absurd z (nx b), e0.funs, e0.frf⟩
    rcases (show scope.names.lookup y = some .cell ∨ scope.names.lookup y = some .free from hy) with z | z
    · exact absurd rfl (L.cellfree _ (PySem.mem_of_lookup z))
    · exact own z
  refine ⟨okL, rfl, e0.bare, Un.kept kp, ⟨_, hns, fun j y v e1 e2 e3 => ?_⟩, fun y c e => ?_, e0.hok.fresh (Nat.le_refl _), fun y c e => ?_, fun p hp => absurd (show p ∈ ([] : List (Addr × Obj)) ++ [] from hp) (by simp),
    e0.hok.kept kp, by rw [List.length_set]; exact I.len⟩
  · rcases (show Vis scope y from e3) with k | k | k
    · have ey : y = q := L.only y k
      subst ey
      have ij : i = j := nodup_ix nd hi e1
      subst ij
      have lt : i < σ.length := by
        rw [I.len]
        exact (List.getElem?_eq_some_iff.mp hi).1
      rw [List.getElem?_set_self lt] at e2
      cases e2
      exact ⟨u, rx, .inl ⟨k, by simp⟩⟩
    · exact absurd rfl (L.cellfree _ (PySem.mem_of_lookup k))
    · have ne : i ≠ j := fun z => by
        subst z
        have e1' : X.N[i]? = some y := e1
        rw [hi] at e1'
        cases e1'
        rw [L.par] at k
        cases k
      rw [List.getElem?_set_ne ne] at e2
      obtain ⟨m, _, look⟩ := I.loc
      have kf := L.up _ (PySem.mem_of_lookup k) rfl
      obtain ⟨w', r, z⟩ := look j y v e1 e2 (kf.elim (fun a => .inr (.inl a)) (fun a => .inr (.inr a)))
      obtain ⟨c2, h2⟩ := own k
      refine ⟨w', r, .inr ⟨.inr k, c2, h2, ?_⟩⟩
      rcases z with ⟨a, _⟩ | ⟨_, c3, b, z⟩
      · have a' : X.env.scope.names.lookup y = some .local := a
        rcases kf with k2 | k2 <;> rw [show X.env.scope.names.lookup y = _ from k2] at a' <;> cases a'
      · have b2 := src h2
        rw [b] at b2
        cases b2
        exact still (I.freeC y _ b) z
  · obtain ⟨w', z⟩ := I.cell y c (src e)
    exact ⟨w', still (I.freeC y c (src e)) z⟩
  · obtain ⟨v, o, ho, _⟩ := I.cell y c (src e)
    exact un.free c o ho (I.freeC y c (src e)) (by simp)
/-- the object of a lambda with defaults dV -/
abbrev lamD (X : Cx) (params : Arguments) (body : Expr) (scope : Scope) (dV doc pm : Value) (c' : Addr) (ctv : Value) : Obj :=
  PySem.W.kdv_obj "<lambda>" (X.env.qual ++ "<lambda>") params (.expr body) scope (cloFrom X.env.cells scope.names []) dV doc pm c' ctv
abbrev lamDF (X : Cx) (params : Arguments) (body : Expr) (scope : Scope) (dV doc pm : Value) (c' : Addr) (ctv : Value) : FuncData :=
  PySem.W.kdv_fn "<lambda>" (X.env.qual ++ "<lambda>") params (.expr body) scope (cloFrom X.env.cells scope.names []) dV doc pm (.ref c') ctv
/-- it is called, in a frame entered from its home at s -/
theorem lam1_code {A : Around} {outer : List Env} {Q : VK} {E : XK} {scope : Scope} {f c' : Addr} {q : Str} {i k : Nat} {x : V} {u dV doc pm ctv : Value} {params : Arguments} {body : Expr} {tb : TE} {args : Args}
    (I : Inv X pins σ H s) (L : Lam1 q X.env.scope scope) (nd : X.N.Nodup) (hi : X.N[i]? = some q) (rx : L2.RelV x u) (e0 : Env0 X.prog X.w X.K X.mg X.base A outer s1 HZ) (hr : Room (k + 1) A)
    (un : Un (frs X.stack) [] H HZ s.heap s1.heap) (of : s1.heap.get? f = some (lamD X params body scope dV doc pm c' ctv)) (hc : HZ c' = some (CodeO c' (X.env.qual ++ "<lambda>"))) (lim : s1.heap.NoLimit)
    (hb : BindsTo s1 (lamDF X params body scope dV doc pm c' ctv) args [(q, u)])
    (hbody : Room k (A.deeper (lamEnv X scope s1.heap.objs.size f c')) → PE (lamCx X A outer s1 HZ E scope f c') body tb) (ht : tb (σ.set i (some x)) HZ Q) :
    codeAny (model X.prog X.w) A (.call (.ref f) args) (CR (L2.CX X.prog X.w) outer X.prog X.w HZ s1 Q E) s1 := by
  obtain ⟨⟨oc, vs, t, hoc, hdc, hvc⟩, _, _⟩ := e0.hok c' _ hc
  refine PySem.W.kla_callFunE hr.depth of rfl L.nc L.ng rfl ⟨c', oc, vs, t, rfl, hoc, hdc, hvc⟩ (hb _ _ _ _ ?_)
  refine wpAny_newFunctionEnv L.cellfree (fun y hy => ?_) (fun h₁ hns hsb => ⟨lim.fresh _ hsb, ?_⟩) L.kd
  · cases List.mem_singleton.mp hy
    exact L.par
  show codeAny _ _ (.expr body (lamEnv X scope s1.heap.objs.size f c')) _ _
  have kp : ∀ b o, s1.heap.get? b = some o → h₁.get? b = some o := fun b o e => hsb.extBut b o (Nat.ne_of_lt (Heap.lt_size e)) (Heap.get?_push_of_some _ e)
  have J := lam1_start (A := A) (outer := outer) (E := E) (f := f) (c' := c') (tk := s1.toks + ([(q, u)] : List (Str × Value)).length) I L nd hi rx e0 hr.hd un hns kp
  refine PySem.W.kla_codeExpr (wpAny_mono ((hbody (hr.deeper _)).run [] _ _ HZ Q J ht) (fun v s' z => ?_) fun e s' z => z)
  obtain ⟨w', H', J', rv, z⟩ := z
  exact ⟨w', H', J'.os, J'.bare, J'.base, J'.hok, rv, z⟩
end
end LamX

set_option maxRecDepth 100000
set_option maxHeartbeats 4000000
namespace K01
open PySem PySem.Spec PyProof.Rows L2 He VH RZ
/-! what the law itself says of a statement's needs -/
abbrev rdL : List Str := ["read", "copy", "same old", "same new"]
theorem rd_all : ∀ s ∈ allSt, hasW s rdW = (!(s.w == "insert") && (s.w == "put" || (s.mid ++ s.cs).any rdL.contains)) := by decide +kernel
theorem tk_all : ∀ s ∈ allSt, hasW s tkW = (s.w == "insert" || (s.w == "set" && s.mid.head? == some "input")) := by decide +kernel
abbrev sLnr : Stmt := top 22
abbrev sLni : Stmt := top 23
abbrev FnLnr (K : PySem.W.Frag) (fd : FuncData) : Prop := FnP K "_law_needs_read" sLnr (ga K "_law_needs_read") fd
abbrev FnLni (K : PySem.W.Frag) (fd : FuncData) : Prop := FnP K "_law_needs_input" sLni (ga K "_law_needs_input") fd
theorem bLnr {K : PySem.W.Frag} {fd : FuncData} (F : FnLnr K fd) : Binds K fd ["_law_step"] [] := FunD.bindsN F fun _ _ _ _ _ _ us hl => match us, hl with | [_], _ => rfl
theorem bLni {K : PySem.W.Frag} {fd : FuncData} (F : FnLni K fd) : Binds K fd ["_law_step"] [] := FunD.bindsN F fun _ _ _ _ _ _ us hl => match us, hl with | [_], _ => rfl
abbrev nLnr : List Str := ["_law_step", "_law_words", "_law_one_here"]
theorem scLnr : FnScope nLnr ["_law_step"] (defScope sLnr) := ⟨rfl, rfl, rfl, by decide +kernel, rfl, by decide +kernel, by decide +kernel⟩
theorem scLni : FnScope ["_law_step"] ["_law_step"] (defScope sLni) := ⟨rfl, rfl, rfl, by decide +kernel, rfl, by decide +kernel, by decide +kernel⟩
def spLn (ws : List Str) : Sp := fun vs H Q _ => ∃ (p : Addr) (s : Stp), vs = [.ref p] ∧ StAt H p s ∧ s.ok = true ∧ ∀ H', Same H H' → Q (.bl (hasW s ws)) H'
theorem cut1L {x z : V} {ys : List V} : cutV (x :: (ys ++ [z])) (some 1) (some (-1)) = ys := by
  unfold cutV HT.sIx
  simp
  rw [show ((-1 : Int) + ((ys.length : Int) + 1 + 1)).toNat - 1 = ys.length by omega]
  simp
theorem dp1 {K : PySem.W.Frag} {H : Hp} (n : Nat) : DpAll K H (List.replicate n (V.int 1)) (List.replicate n (PyData.int 1)) := by
  induction n with
  | zero => exact .nil
  | succ n ih => exact .cons (.int _) ih
theorem shp1 (n : Nat) : SeqAt.shaped (.list (List.replicate n (PyData.int 1))) = true := by
  have z : ∀ n : Nat, PyData.canLayAll0 (List.replicate n (PyData.int 1)) = true ∧ PyData.depthAll (List.replicate n (PyData.int 1)) = 0 := fun n => by
    induction n with
    | zero => exact ⟨rfl, rfl⟩
    | succ n ih =>
      rw [List.replicate_succ]
      exact ⟨by unfold PyData.canLayAll0; rw [ih.1]; decide, by unfold PyData.depthAll; rw [ih.2]; decide⟩
  unfold SeqAt.shaped PyData.canLay0 PyData.depth
  rw [(z n).1, (z n).2]
  rfl
section
variable {P : Program} {w : World} {K : PySem.W.Frag} {mg : Str → Option Value} {base : Heap} {f : Addr} {fd : FuncData}
theorem ok_lnr (F : FnP K "_law_needs_read" sLnr f fd) (T : Txt K mg w) : FnOk P w K mg base CX0 1 f fd ["_law_step"] (spLn rdW) := by
  refine F.ok scLnr (fun vs H Q E h => ?_) (fun cdv A outer s H vs Q E hr h => ?_)
  · obtain ⟨p, s, rfl, _⟩ := h
    rfl
  refine ⟨_, PSs.nox (pss_cons (ps_if (pt_cmpR op_eq (pe_ix ix_tup (pv 0) pe_int (fun _ _ => rfl)) pe_str (nomark _)) (pss_one (ps_ret pe_bl)) pss_nil)
    (pss_cons (ps_set (i := 1) scLnr.nd rfl (Or.inl rfl) (pe_op op_cat (pe_callTy call_list_of (by rfl) T.g_list boot_list (pa_cons (pe_slice sl_tup (pv 0) (po_some pe_int) (po_some (pe_un un_neg pe_int))) pa_nil))
        (pe_callTy call_list_of (by rfl) T.g_list boot_list (pa_cons (pe_ix ix_tup (pv 0) (pe_un un_neg pe_int) (fun _ _ => rfl)) pa_nil))))
    (pss_one (ps_ret (pe_or (pe_cmpR op_eq (pe_ix ix_tup (pv 0) pe_int (fun _ _ => rfl)) pe_str (nomark _))
      (pe_one (pe_cmpR (op_neD hr.units) (pe_lc (own := [("_law_one_here", 2)]) (g := gName 2) (tt := tTest (tOp (rIn K false) (tVar 2) (tLst (tCons (tC (.str "read")) (tCons (tC (.str "copy")) (tCons (tC (.str "same old")) (tCons (tC (.str "same new")) tNil))))))) (te := tC (.int 1)) rfl scLnr.nd
          (pi_list (pv 1)) (blkOk_by (N := nLnr) (sc := defScope sLnr) (by decide +kernel)) (fun _ _ _ _ _ => pg_name (i := 2) scLnr.nd rfl (Or.inl rfl))
          (fun _ _ _ _ _ => pts_one (pt_cmpR op_in_seq (pv 2) (pe_lst (pa_cons pe_str (pa_cons pe_str (pa_cons pe_str (pa_cons pe_str pa_nil))))) (by rfl))) (fun _ _ _ _ _ => pe_int)) (pe_lst pa_nil) (nomark _)))))))), ?_⟩
  obtain ⟨p, s, rfl, at_, ok, k⟩ := h
  have eq := rd_all s (mem_all ok)
  obtain ⟨f1, f2, f3, f4, f5⟩ := Stp.facts ok
  have lc := wds_le f4
  have lm : s.mid.length ≤ 2 := by rw [f2]; exact plcs_le _
  unfold StAt at at_
  by_cases wi : s.w = "insert"
  · rw [if_pos wi] at at_
    refine ⟨_, rfl, _, _, _, _, rfl, rfl, SqT.of at_, at0, rfl, _, rfl, iteT ?_⟩
    have := k H (Same.refl H)
    rw [eq, wi] at this
    exact this
  rw [if_neg wi] at at_
  obtain ⟨q, h1, h2⟩ := at_
  refine ⟨_, rfl, _, _, _, _, rfl, rfl, SqT.of h1, at0, rfl, _, rfl, ?_⟩
  rw [show decide (V.str s.w = V.str "insert") = false by simp [wi]]
  refine iteF ⟨_, rfl, _, rfl, 1, rfl, _, rfl, _, _, rfl, SqT.of h1, not1, fun t nt => ?_⟩
  rw [cut1L]
  have S1 := Same.new (o := .tup (s.mid.map V.str)) nt
  refine ⟨t, _, rfl, .inr (SqT.of upd_same), fun l1 n1 => ?_⟩
  have S2 := S1.trans (Same.new (o := .lst (s.mid.map V.str)) n1)
  refine ⟨_, rfl, 1, rfl, _, _, _, _, rfl, rfl, SqT.of (S2 _ _ h1), atL (xs := .str s.w :: s.mid.map V.str), q, _, rfl, .inr (SqT.of (S2 _ _ h2)), fun l2 n2 => ?_⟩
  have S3 := S2.trans (Same.new (o := .lst (s.cs.map V.str)) n2)
  have big : 1000 < sizeLine := by decide
  refine ⟨l1, l2, _, _, rfl, rfl, (Same.new n2) _ _ upd_same, upd_same, by rw [List.length_map, List.length_map]; omega, fun l nl => ?_⟩
  have S4 := S3.trans (Same.new (o := .lst (s.mid.map V.str ++ s.cs.map V.str)) nl)
  have hl : upd (upd (upd (upd H t (.tup (s.mid.map V.str))) l1 (.lst (s.mid.map V.str))) l2 (.lst (s.cs.map V.str))) l (.lst (s.mid.map V.str ++ s.cs.map V.str)) l = some (.lst ((s.mid ++ s.cs).map V.str)) := by rw [upd_same, List.map_append]
  generalize upd (upd (upd (upd H t (.tup (s.mid.map V.str))) l1 (.lst (s.mid.map V.str))) l2 (.lst (s.cs.map V.str))) l (.lst (s.mid.map V.str ++ s.cs.map V.str)) = H4 at S4 hl ⊢
  clear S1 S2 S3 n1 n2 nl nt
  refine ⟨_, rfl, _, _, _, _, rfl, rfl, SqT.of (S4 _ _ h1), at0, rfl, _, rfl, ?_⟩
  by_cases wp : s.w = "put"
  · rw [show decide (V.str s.w = V.str "put") = true by simp [wp]]
    refine iteT ?_
    have := k H4 S4
    rw [eq, wp] at this
    exact this
  rw [show decide (V.str s.w = V.str "put") = false by simp [wp]]
  refine iteF ⟨_, rfl, l, rfl, ⟨_, SqL.of hl⟩, fun D nD => ?_⟩
  have lw : (s.mid ++ s.cs).length ≤ 5 := by rw [List.length_append]; omega
  generalize s.mid ++ s.cs = ws at hl lw eq
  refine lc_list (K := K) (xs := ws.map V.str) (fun i G => Same H4 G ∧ ∃ n : Nat, n ≤ i ∧ G D = some (.lst (List.replicate n (.int 1))) ∧ (n = 0 ↔ (ws.take i).any rdL.contains = false)) ⟨Same.new nD, 0, Nat.le_refl _, upd_same, by simp⟩
    (fun i G _ g => SqL.of (g.1 _ _ hl)) (fun i x G hx g => ?_) (fun G g => ?_)
  · obtain ⟨sG, n, ni, hD, hn⟩ := g
    rw [List.getElem?_map] at hx
    obtain ⟨c, hc, rfl⟩ := Option.map_eq_some_iff.mp hx
    have li := (List.getElem?_eq_some_iff.mp hc).1
    refine ⟨rfl, _, rfl, (show 4 ≤ sizeLine by decide), fun ql nq => ?_⟩
    have sq := Same.new (o := .lst [.str "read", .str "copy", .str "same old", .str "same new"]) nq
    refine ⟨ql, _, rfl, .inl (SqL.of upd_same), rfl, (show (rdL.map V.str).all flatV = true from flat_strs), _, rfl, ?_⟩
    rw [show inV (.str c) [.str "read", .str "copy", .str "same old", .str "same new"] = rdL.contains c from inV_strs (ws := rdL)]
    have s5 := sG.trans sq
    have hD5 := sq _ _ hD
    generalize upd G ql (.lst [.str "read", .str "copy", .str "same old", .str "same new"]) = G5 at s5 hD5 ⊢
    have tk : (ws.take (i + 1)).any rdL.contains = ((ws.take i).any rdL.contains || rdL.contains c) := by
      rw [List.take_succ, hc]
      simp
    cases hin : rdL.contains c with
    | true =>
      refine iteT ⟨_, hD5, ?_, same_put s5 nD, n + 1, by omega, ?_, ?_⟩
      · rw [List.length_replicate]
        omega
      · rw [upd_same, List.replicate_succ']
      · rw [tk, hin]
        simp
    | false =>
      refine iteF ⟨s5, n, by omega, hD5, ?_⟩
      rw [tk, hin, Bool.or_false]
      exact hn
  · obtain ⟨sG, n, ni, hD, hn⟩ := g
    rw [List.length_map, List.take_length] at hn
    refine ⟨(show 0 ≤ sizeLine by decide), fun e ne => ?_⟩
    have sE := Same.new (o := .lst []) ne
    refine ⟨_, _, .lst (SqL.of (sE _ _ hD)) (dp1 n), .lst (SqL.of upd_same) .nil, shp1 n, by decide +kernel, ?_⟩
    have := k _ ((S4.trans sG).trans sE)
    rw [eq] at this
    rw [show (s.w == "insert") = false by simp [wi], show (s.w == "put") = false by simp [wp], Bool.false_or, Bool.not_false, Bool.true_and] at this
    have v : (!PyData.eqv (.list (List.replicate n (PyData.int 1))) (.list [])) = ws.any rdL.contains := by
      cases n with
      | zero => rw [hn.mp rfl]; rfl
      | succ n =>
        cases ha : ws.any rdL.contains with
        | false => exact absurd (hn.mpr ha) (by simp)
        | true => rfl
    rw [v]
    exact this
theorem ok_lni (F : FnP K "_law_needs_input" sLni f fd) (T : Txt K mg w) : FnOk P w K mg base CX0 1 f fd ["_law_step"] (spLn tkW) := by
  refine F.ok scLni (fun vs H Q E h => ?_) (fun cdv A outer s H vs Q E hr h => ?_)
  · obtain ⟨p, s, rfl, _⟩ := h
    rfl
  refine ⟨_, PSs.nox (pss_one (ps_ret (pe_or (pe_cmpR op_eq (pe_ix ix_tup (pv 0) pe_int (fun _ _ => rfl)) pe_str (nomark _))
    (pe_one (pe_cmpR (op_eqD hr.units) (pe_slice sl_tupA (pv 0) po_none (po_some pe_int)) (pe_tup (pa_cons pe_str (pa_cons pe_str pa_nil))) (nomark _)))))), ?_⟩
  obtain ⟨p, s, rfl, at_, ok, k⟩ := h
  have eq := tk_all s (mem_all ok)
  have kd := Stp.kinds ok
  obtain ⟨f1, f2, f3, f4, f5⟩ := Stp.facts ok
  unfold StAt at at_
  rcases kd with ⟨wi, _, m, hm, _⟩ | ⟨wd, hm⟩ | ⟨wp, m, hm, mm⟩ | ⟨ws, m, n, hm, mm, nn⟩
  · rw [if_pos wi] at at_
    refine ⟨_, rfl, _, _, _, _, rfl, rfl, SqT.of at_, at0, rfl, _, rfl, iteT ?_⟩
    have := k H (Same.refl H)
    rw [eq, wi] at this
    exact this
  · have wi : s.w ≠ "insert" := by rw [wd]; decide
    rw [if_neg wi, wd, hm] at at_
    obtain ⟨q, h1, h2⟩ := at_
    refine ⟨_, rfl, _, _, _, _, rfl, rfl, SqT.of h1, at0, rfl, _, rfl, iteF ?_⟩
    refine ⟨_, rfl, _, rfl, p, _, rfl, SqT.of h1, fun _ => ?_, fun z => absurd ⟨rfl, rfl⟩ z⟩
    refine ⟨(show 2 ≤ sizeLine by decide), fun t nt => ?_⟩
    have S := Same.new (o := .tup [.str "set", .str "input"]) nt
    refine ⟨_, _, .tup (SqT.of (S _ _ h1)) (.cons (.str _) (.cons (dpT (SqT.of (S _ _ h2))) .nil)), .tup (SqT.of upd_same) (.cons (.str _) (.cons (.str _) .nil)), ?_, by decide +kernel, ?_⟩
    · have : ∀ c ∈ Ls 3, SeqAt.shaped (.tuple [.str "delete", .tuple (c.map PyData.str)]) = true := by decide +kernel
      exact this _ (cs_all f4)
    · have := k _ S
      rw [eq, wd, hm] at this
      exact this
  · have wi : s.w ≠ "insert" := by rw [wp]; decide
    rw [if_neg wi, wp, hm] at at_
    obtain ⟨q, h1, h2⟩ := at_
    refine ⟨_, rfl, _, _, _, _, rfl, rfl, SqT.of h1, at0, rfl, _, rfl, iteF ?_⟩
    refine ⟨_, rfl, _, rfl, p, _, rfl, SqT.of h1, fun z => absurd z.2 (show ¬ (2 : Nat) = 3 by decide), fun _ r nr => ?_⟩
    refine ⟨(show 2 ≤ sizeLine by decide), fun t nt => ?_⟩
    have S := Same.new (o := .tup [.str "set", .str "input"]) nt
    refine ⟨_, _, .tup (SqT.of (S _ _ (show upd H r _ r = some (.tup [.str "put", .str m]) from upd_same))) (.cons (.str _) (.cons (.str _) .nil)), .tup (SqT.of upd_same) (.cons (.str _) (.cons (.str _) .nil)), ?_, by decide +kernel, ?_⟩
    · have : ∀ m ∈ (["none", "now", "read", "copy"] : List Str), SeqAt.shaped (.tuple [.str "put", .str m]) = true := by decide +kernel
      exact this _ mm
    · have := k _ ((Same.new nr).trans S)
      rw [eq, wp, hm] at this
      exact this
  · have wi : s.w ≠ "insert" := by rw [ws]; decide
    rw [if_neg wi, ws, hm] at at_
    obtain ⟨q, h1, h2⟩ := at_
    refine ⟨_, rfl, _, _, _, _, rfl, rfl, SqT.of h1, at0, rfl, _, rfl, iteF ?_⟩
    refine ⟨_, rfl, _, rfl, p, _, rfl, SqT.of h1, fun z => absurd z.2 (show ¬ (2 : Nat) = 4 by decide), fun _ r nr => ?_⟩
    refine ⟨(show 2 ≤ sizeLine by decide), fun t nt => ?_⟩
    have S := Same.new (o := .tup [.str "set", .str "input"]) nt
    refine ⟨_, _, .tup (SqT.of (S _ _ (show upd H r _ r = some (.tup [.str "set", .str m]) from upd_same))) (.cons (.str _) (.cons (.str _) .nil)), .tup (SqT.of upd_same) (.cons (.str _) (.cons (.str _) .nil)), ?_, by decide +kernel, ?_⟩
    · have : ∀ m ∈ (["keep", "input", "read"] : List Str), SeqAt.shaped (.tuple [.str "set", .str m]) = true := by decide +kernel
      exact this _ mm
    · have := k _ ((Same.new nr).trans S)
      rw [eq, ws, hm] at this
      have v : PyData.eqv (.tuple [.str "set", .str m]) (.tuple [.str "set", .str "input"]) = (m == "input") := by
        simp [PyData.eqv, PyData.eqvAll]
      rw [v]
      have e2 : (([m, n] : List Str).head? == some "input") = (m == "input") := by
        show (some m == some "input") = (m == "input")
        simp
      rw [e2] at this
      exact this
end
end K01

set_option maxRecDepth 100000
set_option maxHeartbeats 4000000
/-! isinstance(e, c) in a suite, e the exception that it holds, without a dict. -/
namespace L2
open PySem PySem.Spec PyProof.Rows
def rIsN0 (K : PySem.W.Frag) (a : Addr) (cls : Value) (d : Option Addr) : List V → Hp → VK → Prop := fun xs H Q => ∃ (D : Addr) (c : V) (cv : Value) (b : Bool), xs = [.ref a, c] ∧ cls = .ref D ∧ d = none ∧ ExcC K D ∧ (∀ u, RelV c u → u = cv) ∧
  PySem.W.kitOne K (.ref D) cv = some b ∧ Q (.bl b) H
theorem call_isN0 {X : Cx} {a : Addr} {oe : Obj} {cls : Value} {d : Option Addr} {pn : List (Addr × Obj)} (hz : Zc cls d oe) (hf : ∃ vs, oe.data = .fields vs) : CallR (X.suite a ((a, oe) :: pn)) (.builtin "isinstance") (rIsN0 X.K a cls d) := by
  intro pins s σ H xs us Q I r h
  obtain ⟨D, c, cv, b, rfl, rfl, rfl, C, hcv, e, q⟩ := h
  obtain ⟨u, v, rfl, ru, rv⟩ := vals2 r
  obtain rfl : u = Value.ref a := ru
  obtain rfl := hcv _ rv
  obtain ⟨at_, _⟩ := I.pin (a, oe) (List.mem_append_left _ List.mem_cons_self)
  obtain ⟨vs, hv⟩ := hf
  have J : PySem.W.InstAt s.heap a oe D none := by
    refine ⟨at_, hz.1, ?_, ?_⟩
    · unfold PySem.W.notCls
      rw [hv]
    · rw [hz.2]
      exact True.intro
  exact PySem.W.kia_one (PySem.W.vx_kit C) I.kIn ⟨oe, none, J⟩ e (fun z => nomatch z) fun tk => ⟨.bl b, H, I.kept (t' := tk) fun _ _ z => z, rfl, q⟩
end L2

set_option maxRecDepth 100000
set_option maxHeartbeats 4000000
namespace K01
open PySem PySem.Spec PyProof.Rows L2 He VH RZ
/-! what is told of a refusal; what stands whatever becomes of the well -/
abbrev sSaid : Stmt := top 24
abbrev nSaid : List Str := ["_law_ask", "e"]
abbrev FnSaid (K : PySem.W.Frag) (fd : FuncData) : Prop := FnP K "_law_said" sSaid (ga K "_law_said") fd
theorem bSaid {K : PySem.W.Frag} {fd : FuncData} (F : FnSaid K fd) : Binds K fd ["_law_ask"] [] := FunD.bindsN F fun _ _ _ _ _ _ us hl => match us, hl with | [_], _ => rfl
theorem scSaid : FnScope nSaid ["_law_ask"] (defScope sSaid) := ⟨rfl, rfl, rfl, by decide +kernel, rfl, by decide +kernel, by decide +kernel⟩
/-- the clauses of _law_said -/
def clauses (K : PySem.W.Frag) : List Clause :=
  [(.ref (ga K "NoStatement"), some 1, fun a cls d => tRet (tTup (tCons (tC (.str "none")) (tCons (tAndV (tCB (rIsN0 K a cls d) (tCons (tVar 1) (tCons (tC (.ref (ga K "FillError"))) tNil))) (tCB (rIsN0 K a cls d) (tCons (tVar 1) (tCons (tC (.ty "ValueError")) tNil)))) tNil)))),
   (.ref (ga K "FillError"), none, fun _ _ _ => tRet (tTup (tCons (tC (.str "other")) (tCons (tC .non) tNil))))]
theorem gives {X : Cx} {g : Addr} {cdg : Value} {q : Str} (T : Txt X.K X.mg X.w) :
    LamX.GivesTo X nSaid "_law_said" (defScope sSaid) g cdg (defBody sSaid) "_law_ask" q (LamX.TTmix X.K 2 (clauses X.K) "told") := by
  refine LamX.said_gives (l := clauses X.K) (fun f => rfl) (fun s H => .named (i := 1) scSaid.nd rfl rfl ⟨rfl, by decide, .inl T.m_NoStatement⟩ (fun a oe cls d pn hz hf => pss_one (ps_ret (pe_tup (pa_cons pe_str (pa_cons
      (pe_and (pe_callB (call_isN0 hz hf) (by rfl) T.g_isinstance boot_isinstance (pa_cons (pv 1) (pa_cons (pe_glob (v := .ref (ga X.K "FillError")) (by rfl) T.m_FillError rfl) pa_nil)))
        (pe_one (pe_callB (call_isN0 hz hf) (by rfl) T.g_isinstance boot_isinstance (pa_cons (pv 1) (pa_cons (pe_bltn (v := .ty "ValueError") (by rfl) T.g_ValueError boot_ValueError rfl) pa_nil))))) pa_nil)))))
    (.bare ⟨rfl, by decide, .inl T.m_FillError⟩ (fun a oe cls d pn hz hf => pss_one (ps_ret (pe_tup (pa_cons pe_str (pa_cons pe_non pa_nil))))) .nil))
/-- NoStatement is a FillError, and a ValueError -/
def Kit (K : PySem.W.Frag) : Prop := PySem.W.kitOne K (.ref (ga K "NoStatement")) (.ref (ga K "FillError")) = some true ∧ PySem.W.kitOne K (.ref (ga K "NoStatement")) (.type "ValueError") = some true
/-- the wish of _law_said -/
def Wsh (K : PySem.W.Frag) (Q : VK) : XK := fun cls d H' => ∀ σ' : L2.St, σ'.length = 2 → wMix K (fun _ _ _ _ => False) { nx := fun _ H' => Q V.non H', rt := Q } (clauses K) cls d σ' H'
theorem told_no {K : PySem.W.Frag} {mg : Str → Option Value} {w : World} (T : Txt K mg w) (kt : Kit K) {Q : VK} {H : Hp} (k : ∀ (H' : Hp) (p : Addr), Same H H' → H' p = some (.tup [.str "none", .bl true]) → Q (.ref p) H') : Rn K (Wsh K Q) H := by
  intro H' s σ' l2
  match σ', l2 with
  | [v0, v1], _ =>
    refine ⟨true, T.xm "NoStatement" (by simp) "NoStatement" (by simp), fun _ a ha => ?_, fun q => Bool.noConfusion q⟩
    have ec := T.x_NoStatement.ec T.dc1 T.dc2
    refine ⟨_, rfl, _, _, _, true, rfl, rfl, rfl, ec, fun u e => e, kt.1, true, rfl, iteT ⟨_, rfl, _, _, _, true, rfl, rfl, rfl, ec, fun u e => e, kt.2, (show 2 ≤ sizeLine by decide), fun p hp => k _ p (s.trans (Same.new hp)) upd_same⟩⟩
/-- nothing of a well and of tables -/
def Bx (a : Addr) (H H' : Hp) : Prop := ∀ b o, b ≠ a → H b = some o → (∀ ps, o ≠ .tbl ps) → H' b = some o
theorem Bx.refl {a : Addr} {H : Hp} : Bx a H H := fun _ _ _ h _ => h
theorem Bx.trans {a : Addr} {H H1 H2 : Hp} (x : Bx a H H1) (y : Bx a H1 H2) : Bx a H H2 := fun b o n h t => y b o n (x b o n h t) t
theorem Bx.but {a : Addr} {H H' : Hp} (h : But a H H') : Bx a H H' := fun b o n e _ => h b o n e
theorem Bx.same {a : Addr} {H H' : Hp} (h : Same H H') : Bx a H H' := fun b o _ e _ => h b o e
theorem Bx.ext {a : Addr} {H H' : Hp} (h : LamX.ExtN H H') : Bx a H H' := fun b o _ e t => h b o e t
theorem Bx.at {a b : Addr} {H H' : Hp} {o : HO} (h : Bx a H H') (w : Well H a) (e : H b = some o) (n : ∀ xs, o ≠ .lst xs) (t : ∀ ps, o ≠ .tbl ps) : H' b = some o := by
  refine h b o (fun z => ?_) e t
  obtain ⟨_, _, _, w⟩ := w
  rw [z, w] at e
  exact n _ (Option.some.inj e).symm
theorem Bx.tup {a b : Addr} {H H' : Hp} {xs : List V} (h : Bx a H H') (w : Well H a) (e : H b = some (.tup xs)) : H' b = some (.tup xs) := h.at w e (fun _ z => by cases z) (fun _ z => by cases z)
theorem Bx.lst {a b : Addr} {H H' : Hp} {xs : List V} (h : Bx a H H') (n : b ≠ a) (e : H b = some (.lst xs)) : H' b = some (.lst xs) := h b _ n e (fun _ z => by cases z)
theorem Bx.dct {a b : Addr} {H H' : Hp} {xs : List (Key × V)} (h : Bx a H H') (w : Well H a) (e : H b = some (.dK xs)) : H' b = some (.dK xs) := h.at w e (fun _ z => by cases z) (fun _ z => by cases z)
theorem _root_.L2.Well.same {a : Addr} {H H' : Hp} (w : Well H a) (s : Same H H') : Well H' a := by
  obtain ⟨c, b, n, w⟩ := w
  exact ⟨c, b, n, s _ _ w⟩
theorem _root_.L2.Well.new {a t : Addr} {H : Hp} (w : Well H a) (n : H t = none) : t ≠ a := fun z => by
  obtain ⟨_, _, _, w⟩ := w
  rw [z, w] at n
  cases n
theorem _root_.L2.Well.ext {a : Addr} {H H' : Hp} (w : Well H a) (s : LamX.ExtN H H') : Well H' a := by
  obtain ⟨c, b, n, w⟩ := w
  exact ⟨c, b, n, s _ _ w (fun _ z => by cases z)⟩
theorem _root_.L2.Well.lst {H : Hp} {a : Addr} (w : Well H a) : ∃ zs, H a = some (.lst zs) := by
  obtain ⟨_, _, _, w⟩ := w
  exact ⟨_, w⟩
theorem tabs_off {Tt : List (Addr × Str)} {H H' : Hp} {l : Addr} {ys : List V} (t : LamX.Tabs Tt H) (hl : H l = some (.lst ys)) (b : But l H H') : LamX.Tabs Tt H' := fun q hp => by
  obtain ⟨ps, h1, h2, h3⟩ := t q hp
  have n1 : q.1 ≠ l := fun z => by rw [z, hl] at h1; cases h1
  refine ⟨ps, b _ _ n1 h1, h2, fun pos cv hc => ?_⟩
  obtain ⟨c, e1, e2⟩ := h3 pos cv hc
  refine ⟨c, e1, b _ _ (fun z => ?_) e2⟩
  rw [z, hl] at e2
  unfold LamX.CodeO at e2
  cases e2
end K01

set_option maxRecDepth 100000
set_option maxHeartbeats 4000000
/-! Slices and sums of tuples, told by their items alone. -/
namespace L2
open PySem PySem.Spec PyProof.Rows
theorem cut_whole {xs : List V} {lo hi : Option Int} (h : HT.sIx xs.length 0 lo = 0 ∧ HT.sIx xs.length xs.length hi = xs.length) : cutV xs lo hi = xs := by
  unfold cutV
  rw [h.1, h.2]
  simp
def rSlZ (K : PySem.W.Frag) : V → Option Int → Option Int → Hp → VK → Prop := fun x lo hi H Q => ∃ a xs, x = .ref a ∧ SqT K H a xs ∧ ∀ (q : Addr) (G : Hp), Same H G → SqT K G q (cutV xs lo hi) → Q (.ref q) G
theorem sl_tupZ {X : Cx} : SlR X (rSlZ X.K) := by
  intro pins s σ H x v vl vu lo hi sl Q I rx hs pl pu h
  obtain ⟨a, xs, rfl, hx, k⟩ := h
  refine sl_tupA pins s σ H _ v vl vu lo hi sl Q I rx hs pl pu ⟨a, xs, rfl, hx, fun w => k a H (Same.refl H) (by rw [cut_whole w]; exact hx), fun _ p np => k p _ (Same.new np) (SqT.of upd_same)⟩
def rCatZ (K : PySem.W.Frag) : R2 := fun x y H Q => ∃ a b xs ys, x = .ref a ∧ y = .ref b ∧ SqT K H a xs ∧ SqT K H b ys ∧ xs.length + ys.length ≤ sizeLine ∧ ∀ (q : Addr) (G : Hp), Same H G → SqT K G q (xs ++ ys) → Q (.ref q) G
theorem op_catZ {X : Cx} : OpR X (binaryOp .Add) (rCatZ X.K) := by
  intro pins s σ H x y v u Q I rx ry h
  obtain ⟨a, b, xs, ys, rfl, rfl, ha, hb, l, k⟩ := h
  refine op_catA pins s σ H _ _ v u Q I rx ry ⟨a, b, xs, ys, rfl, rfl, ha, hb, l, fun e => ?_, fun _ e => ?_, fun _ _ p np => k p _ (Same.new np) (SqT.of upd_same)⟩
  · subst e
    exact k b H (Same.refl H) hb
  · subst e
    exact k a H (Same.refl H) (by rw [List.append_nil]; exact ha)
end L2

set_option maxRecDepth 100000
set_option maxHeartbeats 4000000
namespace K01
open PySem PySem.Spec PyProof.Rows L2 He VH RZ
/-! a statement, bent -/
abbrev sBent : Stmt := top 25
abbrev nBent : List Str := ["_law_well_here", "_law_step", "_law_at", "_law_deep", "_law_turn", "_law_some", "_law_odd", "_law_way"]
theorem scBent : FnScope nBent ["_law_well_here", "_law_step"] (defScope sBent) := ⟨rfl, rfl, rfl, by decide +kernel, rfl, by decide +kernel, by decide +kernel⟩
abbrev FnBent (K : PySem.W.Frag) (fd : FuncData) : Prop := FnP K "_law_bent" sBent (ga K "_law_bent") fd
theorem bBent {K : PySem.W.Frag} {fd : FuncData} (F : FnBent K fd) : Binds K fd ["_law_well_here", "_law_step"] [] := FunD.bindsN F fun _ _ _ _ _ _ us hl => match us, hl with | [_, _], _ => rfl
theorem bOne {K : PySem.W.Frag} {f : Addr} {fd : FuncData} (F : FnP K "_law_one" sOne f fd) : Binds K fd ["_law_well_here", "_law_some"] [] := FunD.bindsN F fun _ _ _ _ _ _ us hl => match us, hl with | [_, _], _ => rfl
theorem bDraw {K : PySem.W.Frag} {f : Addr} {fd : FuncData} (F : FnP K "_law_draw" sDraw f fd) : Binds K fd ["_law_well_here", "_law_much"] [] := FunD.bindsN F fun _ _ _ _ _ _ us hl => match us, hl with | [_, _], _ => rfl
/-- a thing of any kind, whatever becomes of the well -/
def Ob (K : PySem.W.Frag) (a : Addr) (H : Hp) (x : V) : Prop := ∃ t : Tr, t.fine = true ∧ ∀ G, Bx a H G → At K G x t
section
variable {K : PySem.W.Frag} {a p : Addr} {H H' G : Hp} {x : V} {xs ys : List V} {ts us : List Tr}
theorem Ob.bx (h : Ob K a H x) (b : Bx a H H') : Ob K a H' x := h.imp fun t q => ⟨q.1, fun G g => q.2 G (b.trans g)⟩
/-- a tuple's items, whatever becomes of the well -/
def Obs (K : PySem.W.Frag) (a : Addr) (H : Hp) (xs : List V) : Prop := ∃ ts : List Tr, Tr.fines ts = true ∧ ts.length = xs.length ∧ ∀ G, Bx a H G → Ats K G xs ts
theorem Obs.bx (h : Obs K a H xs) (b : Bx a H H') : Obs K a H' xs := h.imp fun t q => ⟨q.1, q.2.1, fun G g => q.2.2 G (b.trans g)⟩
theorem fines_app : ∀ {ts us : List Tr}, Tr.fines ts = true → Tr.fines us = true → Tr.fines (ts ++ us) = true
  | [], _, _, h => h
  | t :: ts, us, h, k => by
    have h : (Tr.fine t && Tr.fines ts) = true := h
    rw [Bool.and_eq_true] at h
    show (Tr.fine t && Tr.fines (ts ++ us)) = true
    rw [h.1, fines_app h.2 k]
    rfl
theorem Obs.app (h : Obs K a H xs) (k : Obs K a H ys) : Obs K a H (xs ++ ys) := by
  obtain ⟨ts, f1, l1, h⟩ := h
  obtain ⟨us, f2, l2, k⟩ := k
  exact ⟨ts ++ us, fines_app f1 f2, by rw [List.length_append, List.length_append, l1, l2], fun G g => (h G g).app (k G g)⟩
theorem Ats.drop : ∀ (n : Nat) {xs : List V} {ts : List Tr}, Ats K G xs ts → Ats K G (xs.drop n) (ts.drop n)
  | 0, _, _, h => h
  | n + 1, _, _, .nil => .nil
  | n + 1, _, _, .cons _ h => Ats.drop n h
theorem Ats.take : ∀ (n : Nat) {xs : List V} {ts : List Tr}, Ats K G xs ts → Ats K G (xs.take n) (ts.take n)
  | 0, _, _, _ => by simpa using Ats.nil
  | n + 1, _, _, .nil => .nil
  | n + 1, _, _, .cons a h => .cons a (Ats.take n h)
theorem Obs.cut (h : Obs K a H xs) (lo hi : Option Int) : Obs K a H (cutV xs lo hi) ∧ (cutV xs lo hi).length ≤ xs.length := by
  obtain ⟨ts, f, l, h⟩ := h
  have key : ∃ i n, ∀ (ys : List V), cutV xs lo hi = (xs.drop i).take n := ⟨_, _, fun _ => rfl⟩
  obtain ⟨i, n, e⟩ := key
  rw [e xs]
  refine ⟨⟨(ts.drop i).take n, Tr.fines_of fun t ht => Tr.fines_all f t (List.mem_of_mem_drop (List.mem_of_mem_take ht)), by simp [l], fun G g => Ats.take n (Ats.drop i (h G g))⟩, ?_⟩
  simp only [List.length_take, List.length_drop]
  omega
theorem Ob.one (h : Ob K a H x) : Obs K a H [x] := by
  obtain ⟨t, f, h⟩ := h
  exact ⟨[t], by show (t.fine && true) = true; rw [f]; rfl, rfl, fun G g => .cons (h G g) .nil⟩
theorem Ob.strs (ws : List Str) (h : Tr.fines (ws.map Tr.str) = true) : Obs K a H (ws.map V.str) := ⟨ws.map Tr.str, h, by simp, fun G _ => Ats.strs _⟩
theorem fine_tup_of {ts : List Tr} (f : Tr.fines ts = true) (l : ts.length ≤ 1000) : (Tr.tup ts).fine = true := by
  show (decide (ts.length ≤ 1000) && Tr.fines ts) = true
  rw [f, decide_eq_true l]
  rfl
theorem fine_lst_of {ts : List Tr} (f : Tr.fines ts = true) (l : ts.length ≤ 1000) : (Tr.lst ts).fine = true := by
  show (decide (ts.length ≤ 1000) && Tr.fines ts) = true
  rw [f, decide_eq_true l]
  rfl
theorem Obs.tup (h : Obs K a H xs) (l : xs.length ≤ 1000) (e : ∀ G, Bx a H G → SqT K G p xs) : Ob K a H (.ref p) := by
  obtain ⟨ts, f, l', h⟩ := h
  exact ⟨.tup ts, fine_tup_of f (by omega), fun G g => .tup (e G g) (h G g)⟩
theorem Obs.lst (h : Obs K a H xs) (l : xs.length ≤ 1000) (n : p ≠ a) (e : H p = some (.lst xs)) : Ob K a H (.ref p) := by
  obtain ⟨ts, f, l', h⟩ := h
  exact ⟨.lst ts, fine_lst_of f (by omega), fun G g => .lst (SqL.of (g.lst n e)) (h G g)⟩
theorem Ob.str {z : Str} (h : (Tr.str z).fine = true) : Ob K a H (.str z) := ⟨.str z, h, fun _ _ => .str⟩
theorem Ob.dct {kvs : List (Key × V)} (w : Well H a) (e : H p = some (.dK kvs)) : Ob K a H (.ref p) := ⟨.dct, rfl, fun G g => .dct (g.dct w e)⟩
/-- a tuple of the heap, or of the kit -/
theorem sqt_bx {xs : List V} (h : SqT K H p xs) (w : Well H a) (b : Bx a H G) : SqT K G p xs := by
  rcases h with (h | ⟨o, h⟩) | h
  · exact .inl (.inl (b.tup w h))
  · exact .inl (.inr ⟨o, b.at w h (fun _ z => by cases z) (fun _ z => by cases z)⟩)
  · exact .inr h
theorem Obs.tupT (h : Obs K a H xs) (w : Well H a) (l : xs.length ≤ 1000) (e : SqT K H p xs) : Ob K a H (.ref p) := h.tup l fun G g => sqt_bx e w g
/-- a statement's items -/
theorem st_obs {s : Stp} (w : Well H a) (h : StAt H p s) (ok : s.ok = true) : ∃ z us, H p = some (.tup (.str z :: us)) ∧ us.length ≤ 3 ∧ (Tr.str z).fine = true ∧ Obs K a H (.str z :: us) := by
  obtain ⟨f1, f2, f3, f4, f5⟩ := Stp.facts ok
  have lm : s.mid.length ≤ 2 := by rw [f2]; exact plcs_le _
  have ft := (tr_all s (mem_all ok)).1
  unfold StAt at h
  unfold Stp.tr at ft
  by_cases wi : s.w = "insert"
  · rw [if_pos wi] at h ft
    have fz := (Tr.fine_tup ft).2
    have fz2 : (Tr.fine (.str "insert") && Tr.fines (s.mid.map Tr.str)) = true := fz
    rw [Bool.and_eq_true] at fz2
    exact ⟨"insert", _, h, by rw [List.length_map]; omega, fz2.1, _, fz, by simp, fun G _ => .cons .str (Ats.strs _)⟩
  · rw [if_neg wi] at h ft
    obtain ⟨q, h1, h2⟩ := h
    have fz := (Tr.fine_tup ft).2
    have fz2 : (Tr.fine (.str s.w) && Tr.fines (s.mid.map Tr.str ++ [.tup (s.cs.map Tr.str)])) = true := fz
    rw [Bool.and_eq_true] at fz2
    exact ⟨s.w, _, h1, by rw [List.length_append, List.length_map]; simp; omega, fz2.1, _, fz, by simp, fun G g => .cons .str ((Ats.strs _).app (.cons (.tup (SqT.of (g.tup w h2)) (Ats.strs _)) .nil))⟩
end
def spBent (K : PySem.W.Frag) : Sp := fun vs H Q _ => ∃ (a p : Addr) (s : Stp), vs = [.ref a, .ref p] ∧ Well H a ∧ StAt H p s ∧ s.ok = true ∧ ∀ (H' : Hp) (x : V), Well H' a → But a H H' → Ob K a H' x → Q x H'
section
variable {P : Program} {w : World} {K : PySem.W.Frag} {mg : Str → Option Value} {base : Heap} {f : Addr} {fd : FuncData} {cdv : Value} {A : Around} {outer : List Env} {s : Shared} {H0 : Hp} {E : XK}
abbrev BeCx (P : Program) (w : World) (K : PySem.W.Frag) (mg : Str → Option Value) (base : Heap) (f : Addr) (cdv : Value) (A : Around) (outer : List Env) (s : Shared) (H : Hp) (E : XK) : Cx :=
  (cxOf CX0 P w K mg base nBent "_law_bent" (defScope sBent) f cdv A outer s H E).tr [] (fun _ _ => False)
/-- what stands within -/
structure Mb (K : PySem.W.Frag) (a p : Addr) (st : Stp) (H0 G : Hp) : Prop where
  wl : Well G a
  bt : But a H0 G
  st : StAt G p st
theorem Mb.but {a p : Addr} {st : Stp} {H0 G G' : Hp} (M : Mb K a p st H0 G) (b : But a G G') (wl : Well G' a) : Mb K a p st H0 G' := ⟨wl, M.bt.trans b, M.st.same fun _ _ z => (Bx.but b).tup M.wl z⟩
theorem Mb.same {a p : Addr} {st : Stp} {H0 G G' : Hp} (M : Mb K a p st H0 G) (S : Same G G') : Mb K a p st H0 G' := M.but (But.of S) (M.wl.same S)
/-- the draws -/
theorem bent1 (T : Txt K mg w) (fns : Fns K) (hr : Room 4 (BeCx P w K mg base f cdv A outer s H0 E).A) {u : TS} (hu : PSs (BeCx P w K mg base f cdv A outer s H0 E) ((defBody sBent).drop 3) u) :
    ∃ t, PSs (BeCx P w K mg base f cdv A outer s H0 E) (defBody sBent) t ∧ ∀ (En : Ends) (a p : Addr) (st : Stp) (H : Hp), Well H a → StAt H p st → st.ok = true →
      (∀ (i : Int) (dp : V) (v4 : Option V) (G : Hp), Mb K a p st H G → 0 ≤ i → Ob K a G dp → u En [some (.ref a), some (.ref p), some (.int i), some dp, v4, none, none, none] G) → t En (L2.start nBent [.ref a, .ref p]) H := by
  obtain ⟨fdD, FD⟩ := fns.f_l_draw
  have GD : FnOk P w K mg base CX0 1 (ga K "_law_draw") fdD ["_law_well_here", "_law_much"] spDraw := ok_draw FD T.g_int
  have big : 1000 < sizeLine := by decide
  refine ⟨_, pss_cons (ps_set (X := BeCx P w K mg base f cdv A outer s H0 E) (i := 2) scBent.nd rfl (Or.inl rfl) (pe_call GD (hr.mono (by decide)) (by rfl) T.m_l_draw FD.kp (bDraw FD) .nil pass0 (pa_cons (pv 0) (pa_cons (pe_op op_add (pe_callB call_len_seq (by rfl) T.g_len boot_len (pa_cons (pv 1) pa_nil)) pe_int) pa_nil))))
    (pss_cons (ps_set (i := 3) scBent.nd rfl (Or.inl rfl) (pe_tup (pa_cons pe_str pa_nil)))
    (pss_cons (ps_for PassesOwn.never rfl (pi_range1 (by rfl) T.g_range (pa_cons pe_int pa_nil)) (pg_name (i := 4) scBent.nd rfl (Or.inl rfl))
      (pss_one (ps_set (i := 3) scBent.nd rfl (Or.inl rfl) (pe_tup (pa_cons (pv 3) pa_nil)))))
    hu)), fun En a p st H wl at_ ok k => ?_⟩
  obtain ⟨z, us, hp, lu, _, _⟩ := st_obs (K := K) wl at_ ok
  refine ⟨_, rfl, _, rfl, p, _, rfl, .inr (SqT.of hp), _, _, rfl, rfl, a, _, rfl, wl, by simp; omega, by simp; omega, fun G i i0 i1 w1 b1 => ?_⟩
  have M : Mb K a p st H G := ⟨w1, b1, at_.same fun _ _ z => (Bx.but b1).tup wl z⟩
  refine ⟨(show 1 ≤ sizeLine by decide), fun t nt => ?_⟩
  have S := Same.new (o := .tup [.str "missing"]) nt
  have M1 := M.same S
  have O1 : Ob K a (upd G t (.tup [.str "missing"])) (.ref t) := (Ob.strs ["missing"] (by decide +kernel)).tupT M1.wl (by decide) (SqT.of upd_same)
  generalize upd G t (.tup [.str "missing"]) = G1 at M1 O1 ⊢
  refine ⟨300, rfl, by decide, by decide, ?_⟩
  refine for_range (lo := 0) (n := 300) (fun j σ G => ∃ (dp : V) (v4 : Option V), σ = [some (.ref a), some (.ref p), some (.int i), some dp, v4, none, none, none] ∧ Mb K a p st H G ∧ Ob K a G dp)
    ⟨_, none, rfl, M1, O1⟩ (fun j σ G _ q => ?_) (fun σ G q => ?_)
  · obtain ⟨dp, v4, rfl, M, O⟩ := q
    refine ⟨_, rfl, (show 1 ≤ sizeLine by decide), fun t nt => ?_⟩
    have S := Same.new (o := .tup [dp]) nt
    have M1 := M.same S
    exact ⟨_, _, rfl, M1, (O.bx (Bx.same S)).one.tupT M1.wl (Nat.le_of_ble_eq_true rfl) (SqT.of upd_same)⟩
  · obtain ⟨dp, v4, rfl, M, O⟩ := q
    exact k i dp v4 G M i0 O
end
end K01

set_option maxRecDepth 100000
set_option maxHeartbeats 4000000
namespace K01
open PySem PySem.Spec PyProof.Rows L2 He VH RZ
def AllOb (K : PySem.W.Frag) (a : Addr) (G : Hp) (xs : List V) : Prop := ∀ x ∈ xs, Ob K a G x
section
variable {P : Program} {w : World} {K : PySem.W.Frag} {mg : Str → Option Value} {base : Heap} {f : Addr} {fd : FuncData} {cdv : Value} {A : Around} {outer : List Env} {s : Shared} {H0 : Hp} {E : XK}
theorem AllOb.bx {a : Addr} {G G' : Hp} {xs : List V} (h : AllOb K a G xs) (b : Bx a G G') : AllOb K a G' xs := fun x hx => (h x hx).bx b
theorem AllOb.app {a : Addr} {G : Hp} {xs ys : List V} (h : AllOb K a G xs) (k : AllOb K a G ys) : AllOb K a G (xs ++ ys) := fun x hx => (List.mem_append.mp hx).elim (h x) (k x)
theorem AllOb.nil {a : Addr} {G : Hp} : AllOb K a G [] := fun x hx => absurd hx (by simp)
theorem AllOb.cons {a : Addr} {G : Hp} {x : V} {xs : List V} (h : Ob K a G x) (k : AllOb K a G xs) : AllOb K a G (x :: xs) := fun y hy => by
  rcases List.mem_cons.mp hy with rfl | hy
  · exact h
  · exact k y hy
theorem obT {a t : Addr} {G : Hp} (ws : List Str) (w : Well G a) (h : Tr.fines (ws.map Tr.str) = true) (l : ws.length ≤ 1000) (e : G t = some (.tup (ws.map V.str))) : Ob K a G (.ref t) := (Ob.strs ws h).tupT w (by rw [List.length_map]; exact l) (SqT.of e)
/-- the list of odd things -/
theorem bent2 (T : Txt K mg w) {u : TS} (hu : PSs (BeCx P w K mg base f cdv A outer s H0 E) ((defBody sBent).drop 6) u) :
    ∃ t, PSs (BeCx P w K mg base f cdv A outer s H0 E) ((defBody sBent).drop 3) t ∧ ∀ (En : Ends) (a p : Addr) (st : Stp) (H G : Hp) (i : Int) (dp : V) (v4 : Option V), Mb K a p st H G → Ob K a G dp →
      (∀ (l : Addr) (xs : List V) (G : Hp), Mb K a p st H G → G l = some (.lst xs) → l ≠ a → xs.length = 28 → AllOb K a G xs → u En [some (.ref a), some (.ref p), some (.int i), some dp, v4, some (.ref l), none, none] G) →
      t En [some (.ref a), some (.ref p), some (.int i), some dp, v4, none, none, none] G := by
  have big : 1000 < sizeLine := by decide
  refine ⟨_, pss_cons (ps_set (X := BeCx P w K mg base f cdv A outer s H0 E) (i := 5) scBent.nd rfl (Or.inl rfl) (pe_lst (pa_cons pe_str (pa_cons pe_str (pa_cons pe_str (pa_cons pe_str (pa_cons pe_str (pa_cons pe_str (pa_cons pe_str (pa_cons pe_str (pa_cons pe_str (pa_cons pe_str (pa_cons (pe_tup pa_nil) (pa_cons (pe_tup (pa_cons pe_str pa_nil)) pa_nil))))))))))))))
    (pss_cons (ps_set (i := 5) scBent.nd rfl (Or.inl rfl) (pe_op op_cat (pv 5) (pe_lst (pa_cons (pe_tup (pa_cons pe_str (pa_cons pe_str pa_nil))) (pa_cons (pe_tup (pa_cons pe_str (pa_cons pe_str pa_nil))) (pa_cons (pe_lst (pa_cons pe_str pa_nil)) (pa_cons pe_str (pa_cons (pe_tup (pa_cons pe_str pa_nil)) (pa_cons pe_non (pa_cons pe_int pa_nil))))))))))
    (pss_cons (ps_set (i := 5) scBent.nd rfl (Or.inl rfl) (pe_op op_cat (pv 5) (pe_lst (pa_cons pe_bl (pa_cons pe_str (pa_cons pe_str (pa_cons (pe_tup (pa_cons pe_str (pa_cons pe_str pa_nil))) (pa_cons (pe_tup (pa_cons pe_str (pa_cons pe_str pa_nil))) (pa_cons pe_dnewK (pa_cons (pe_lst pa_nil) (pa_cons (pv 3) (pa_cons (pe_tup (pa_cons pe_str pa_nil)) pa_nil))))))))))))
    hu)), fun En a p st H G i dp v4 M O k => ?_⟩
  -- the first twelve
  refine ⟨(show 0 ≤ sizeLine by decide), fun t1 n1 => ⟨(show 1 ≤ sizeLine by decide), fun t2 n2 => ⟨(show 12 ≤ sizeLine by decide), fun l1 m1 => ?_⟩⟩⟩
  have S1 := Same.new (o := .tup []) n1
  have S2 := Same.new (o := .tup [.str "missing"]) n2
  have h1 := S2 _ _ (upd_same (H := G) (a := t1) (o := .tup []))
  have h2 := upd_same (H := upd G t1 (.tup [])) (a := t2) (o := .tup [.str "missing"])
  have M1 := M.same (S1.trans S2)
  have O1 := O.bx (Bx.same (S1.trans S2))
  clear S1 S2 n1 n2 M O
  generalize upd (upd G t1 (.tup [])) t2 (.tup [.str "missing"]) = G1 at h1 h2 M1 O1 m1 ⊢
  have A1 : AllOb K a G1 [.str "keep", .str "none", .str "now", .str "read", .str "copy", .str "input", .str "set", .str "put", .str "insert", .str "delete", .ref t1, .ref t2] :=
    .cons (.str (by decide +kernel)) (.cons (.str (by decide +kernel)) (.cons (.str (by decide +kernel)) (.cons (.str (by decide +kernel)) (.cons (.str (by decide +kernel)) (.cons (.str (by decide +kernel)) (.cons (.str (by decide +kernel)) (.cons (.str (by decide +kernel)) (.cons (.str (by decide +kernel)) (.cons (.str (by decide +kernel)) (.cons (obT [] M1.wl rfl (by decide) h1) (.cons (obT ["missing"] M1.wl (by decide +kernel) (by decide) h2) .nil)))))))))))
  have z1 : ([.str "keep", .str "none", .str "now", .str "read", .str "copy", .str "input", .str "set", .str "put", .str "insert", .str "delete", .ref t1, .ref t2] : List V).length = 12 := rfl
  clear h1 h2
  generalize ([.str "keep", .str "none", .str "now", .str "read", .str "copy", .str "input", .str "set", .str "put", .str "insert", .str "delete", .ref t1, .ref t2] : List V) = xs1 at A1 z1 ⊢
  have S3 := Same.new (o := .lst xs1) m1
  have hl1 := upd_same (H := G1) (a := l1) (o := .lst xs1)
  have M2 := M1.same S3
  have O2 := O1.bx (Bx.same S3)
  have A2 := A1.bx (Bx.same S3)
  clear S3 M1 O1 A1 m1
  generalize upd G1 l1 (.lst xs1) = G2 at hl1 M2 O2 A2 ⊢
  -- seven more
  refine ⟨_, rfl, (show 2 ≤ sizeLine by decide), fun t1 n1 => ⟨(show 2 ≤ sizeLine by decide), fun t2 n2 => ⟨(show 1 ≤ sizeLine by decide), fun t3 n3 => ⟨(show 1 ≤ sizeLine by decide), fun t4 n4 => ⟨(show 7 ≤ sizeLine by decide), fun l2 m2 => ?_⟩⟩⟩⟩⟩
  have S1 := Same.new (o := .tup [.str "same old", .str "missing"]) n1
  have S2 := Same.new (o := .tup [.str "missing", .str "missing"]) n2
  have S3 := Same.new (o := .lst [.str "missing"]) n3
  have S4 := Same.new (o := .tup [.str "Missing"]) n4
  have h1 := S4 _ _ (S3 _ _ (S2 _ _ (upd_same (H := G2) (a := t1) (o := .tup [.str "same old", .str "missing"]))))
  have h2 := S4 _ _ (S3 _ _ (upd_same (a := t2) (o := .tup [.str "missing", .str "missing"])))
  have h3 := S4 _ _ (upd_same (a := t3) (o := .lst [.str "missing"]))
  have h4 := upd_same (H := upd (upd (upd G2 t1 (.tup [.str "same old", .str "missing"])) t2 (.tup [.str "missing", .str "missing"])) t3 (.lst [.str "missing"])) (a := t4) (o := .tup [.str "Missing"])
  have a3 := (M2.same (S1.trans S2)).wl.new n3
  have SS := ((S1.trans S2).trans S3).trans S4
  have M3 := M2.same SS
  have O3 := O2.bx (Bx.same SS)
  have A3 := A2.bx (Bx.same SS)
  have hl1 := SS _ _ hl1
  clear S1 S2 S3 S4 SS n1 n2 n3 n4 M2 O2 A2
  generalize upd (upd (upd (upd G2 t1 (.tup [.str "same old", .str "missing"])) t2 (.tup [.str "missing", .str "missing"])) t3 (.lst [.str "missing"])) t4 (.tup [.str "Missing"]) = G3 at h1 h2 h3 h4 M3 O3 A3 hl1 m2 ⊢
  have B3 : AllOb K a G3 [.ref t1, .ref t2, .ref t3, .str "missing", .ref t4, .non, .int 5] :=
    .cons (obT ["same old", "missing"] M3.wl (by decide +kernel) (by decide) h1) (.cons (obT ["missing", "missing"] M3.wl (by decide +kernel) (by decide) h2) (.cons ((Ob.strs ["missing"] (by decide +kernel)).lst (by decide) a3 h3) (.cons (.str (by decide +kernel)) (.cons (obT ["Missing"] M3.wl (by decide +kernel) (by decide) h4) (.cons ⟨.non, rfl, fun _ _ => .non⟩ (.cons ⟨.int 5, rfl, fun _ _ => .int⟩ .nil))))))
  have A4 := A3.app B3
  have z2 : (xs1 ++ ([.ref t1, .ref t2, .ref t3, .str "missing", .ref t4, .non, .int 5] : List V)).length = 19 := by rw [List.length_append, z1]; rfl
  have z2' : ([.ref t1, .ref t2, .ref t3, .str "missing", .ref t4, .non, .int 5] : List V).length = 7 := rfl
  clear h1 h2 h3 h4 B3 A3
  generalize ([.ref t1, .ref t2, .ref t3, .str "missing", .ref t4, .non, .int 5] : List V) = ys1 at A4 z2 z2' ⊢
  have S5 := Same.new (o := .lst ys1) m2
  refine ⟨l1, l2, _, _, rfl, rfl, S5 _ _ hl1, upd_same, by omega, fun l3 m3 => ?_⟩
  have S6 := S5.trans (Same.new (o := .lst (xs1 ++ ys1)) m3)
  have M5 := M3.same S6
  have O5 := O3.bx (Bx.same S6)
  have A5 := A4.bx (Bx.same S6)
  have hl3 := upd_same (H := upd G3 l2 (.lst ys1)) (a := l3) (o := .lst (xs1 ++ ys1))
  clear S5 S6 M3 O3 A4 hl1 m2 m3
  generalize upd (upd G3 l2 (.lst ys1)) l3 (.lst (xs1 ++ ys1)) = G5 at M5 O5 A5 hl3 ⊢
  generalize xs1 ++ ys1 = xs2 at z2 A5 hl3
  -- nine more
  refine ⟨_, rfl, (show 2 ≤ sizeLine by decide), fun t1 n1 => ⟨(show 2 ≤ sizeLine by decide), fun t2 n2 => fun t3 n3 => ⟨(show 0 ≤ sizeLine by decide), fun t4 n4 => ⟨_, rfl, (show 1 ≤ sizeLine by decide), fun t5 n5 => ⟨(show 9 ≤ sizeLine by decide), fun l4 m4 => ?_⟩⟩⟩⟩⟩
  have S1 := Same.new (o := .tup [.str "same new", .str "same old"]) n1
  have S2 := Same.new (o := .tup [.str "missing", .str "same new"]) n2
  have S3 := Same.new (o := .dK []) n3
  have S4 := Same.new (o := .lst []) n4
  have S5 := Same.new (o := .tup [.str "same  old"]) n5
  have h1 := S5 _ _ (S4 _ _ (S3 _ _ (S2 _ _ (upd_same (H := G5) (a := t1) (o := .tup [.str "same new", .str "same old"])))))
  have h2 := S5 _ _ (S4 _ _ (S3 _ _ (upd_same (a := t2) (o := .tup [.str "missing", .str "same new"]))))
  have h3 := S5 _ _ (S4 _ _ (upd_same (a := t3) (o := .dK [])))
  have h4 := S5 _ _ (upd_same (a := t4) (o := .lst []))
  have h5 := upd_same (H := upd (upd (upd (upd G5 t1 (.tup [.str "same new", .str "same old"])) t2 (.tup [.str "missing", .str "same new"])) t3 (.dK [])) t4 (.lst [])) (a := t5) (o := .tup [.str "same  old"])
  have a4 := (M5.same ((S1.trans S2).trans S3)).wl.new n4
  have SS := (((S1.trans S2).trans S3).trans S4).trans S5
  have M6 := M5.same SS
  have O6 := O5.bx (Bx.same SS)
  have A6 := A5.bx (Bx.same SS)
  have hl3 := SS _ _ hl3
  clear S1 S2 S3 S4 S5 SS n1 n2 n3 n4 n5 M5 O5 A5
  generalize upd (upd (upd (upd (upd G5 t1 (.tup [.str "same new", .str "same old"])) t2 (.tup [.str "missing", .str "same new"])) t3 (.dK [])) t4 (.lst [])) t5 (.tup [.str "same  old"]) = G6 at h1 h2 h3 h4 h5 M6 O6 A6 hl3 m4 ⊢
  have B6 : AllOb K a G6 [.bl true, .str "", .str "keep ", .ref t1, .ref t2, .ref t3, .ref t4, dp, .ref t5] :=
    .cons ⟨.bl true, rfl, fun _ _ => .bl⟩ (.cons (.str (by decide +kernel)) (.cons (.str (by decide +kernel)) (.cons (obT ["same new", "same old"] M6.wl (by decide +kernel) (by decide) h1) (.cons (obT ["missing", "same new"] M6.wl (by decide +kernel) (by decide) h2) (.cons (.dct M6.wl h3) (.cons ((Ob.strs [] rfl).lst (by decide) a4 h4) (.cons O6 (.cons (obT ["same  old"] M6.wl (by decide +kernel) (by decide) h5) .nil))))))))
  have A7 := A6.app B6
  have z3' : ([.bl true, .str "", .str "keep ", .ref t1, .ref t2, .ref t3, .ref t4, dp, .ref t5] : List V).length = 9 := rfl
  clear h1 h2 h3 h4 h5 B6 A6
  generalize ([.bl true, .str "", .str "keep ", .ref t1, .ref t2, .ref t3, .ref t4, dp, .ref t5] : List V) = ys2 at A7 z3' ⊢
  have S5 := Same.new (o := .lst ys2) m4
  refine ⟨l3, l4, _, _, rfl, rfl, S5 _ _ hl3, upd_same, by omega, fun l5 m5 => ?_⟩
  have S6 := S5.trans (Same.new (o := .lst (xs2 ++ ys2)) m5)
  exact k l5 _ _ (M6.same S6) upd_same ((M6.same S5).wl.new m5) (by rw [List.length_append]; omega) (A7.bx (Bx.same S6))
end
end K01

set_option maxRecDepth 100000
set_option maxHeartbeats 4000000
namespace K01
open PySem PySem.Spec PyProof.Rows L2 He VH RZ
section
variable {P : Program} {w : World} {K : PySem.W.Frag} {mg : Str → Option Value} {base : Heap} {f : Addr} {fd : FuncData} {cdv : Value} {A : Around} {outer : List Env} {s : Shared} {H0 : Hp} {E : XK}
theorem same_d {H : Hp} {d : Addr} {u v : HO} (n : H d = none) : Same H (upd (upd H d u) d v) := fun b o e => by
  rw [upd_ne (ne_of_none e n), upd_ne (ne_of_none e n)]
  exact e
/-- the ways -/
theorem bent3 (T : Txt K mg w) (fns : Fns K) (hr : Room 4 (BeCx P w K mg base f cdv A outer s H0 E).A) :
    ∃ t, PSs (BeCx P w K mg base f cdv A outer s H0 E) ((defBody sBent).drop 6) t ∧ ∀ (En : Ends) (a p l : Addr) (st : Stp) (H G : Hp) (i : Int) (dp : V) (v4 : Option V) (xs : List V), Mb K a p st H G → st.ok = true → G l = some (.lst xs) → l ≠ a → xs.length = 28 → AllOb K a G xs →
      (∀ (G : Hp) (x : V), Mb K a p st H G → Ob K a G x → En.rt x G) →
      t En [some (.ref a), some (.ref p), some (.int i), some dp, v4, some (.ref l), none, none] G := by
  obtain ⟨fdD, FD⟩ := fns.f_l_draw
  obtain ⟨fdO, FO⟩ := fns.f_l_one
  have GD : FnOk P w K mg base CX0 1 (ga K "_law_draw") fdD ["_law_well_here", "_law_much"] spDraw := ok_draw FD T.g_int
  have GO : FnOk P w K mg base CX0 2 (ga K "_law_one") fdO ["_law_well_here", "_law_some"] (spOne K) := ok_one FO FD T.m_l_draw T.g_int T.g_len
  have big : 1000 < sizeLine := by decide
  refine ⟨_, pss_cons (ps_set (X := BeCx P w K mg base f cdv A outer s H0 E) (i := 6) scBent.nd rfl (Or.inl rfl) (pe_call GO (hr.mono (by decide)) (by rfl) T.m_l_one FO.kp (bOne FO) .nil pass0 (pa_cons (pv 0) (pa_cons (pv 5) pa_nil))))
    (pss_cons (ps_set (i := 7) scBent.nd rfl (Or.inl rfl) (pe_call GD (hr.mono (by decide)) (by rfl) T.m_l_draw FD.kp (bDraw FD) .nil pass0 (pa_cons (pv 0) (pa_cons pe_int pa_nil))))
    (pss_cons (ps_if (pt_cmpR op_eq (pv 7) pe_int (nomark _)) (pss_one (ps_ret (pe_op op_catZ (pe_slice sl_tupZ (pv 1) po_none (po_some (pv 2))) (pe_slice sl_tupZ (pv 1) (po_some (pe_op op_add (pv 2) pe_int)) po_none)))) pss_nil)
    (pss_cons (ps_if (pt_cmpR op_eq (pv 7) pe_int (nomark _)) (pss_one (ps_ret (pe_op op_catZ (pe_op op_catZ (pe_slice sl_tupZ (pv 1) po_none (po_some (pv 2))) (pe_tup (pa_cons (pv 6) pa_nil))) (pe_slice sl_tupZ (pv 1) (po_some (pv 2)) po_none)))) pss_nil)
    (pss_cons (ps_if (pt_cmpR op_eq (pv 7) pe_int (nomark _)) (pss_one (ps_ret (pe_call GO (hr.mono (by decide)) (by rfl) T.m_l_one FO.kp (bOne FO) .nil pass0 (pa_cons (pv 0) (pa_cons (pe_lst
        (pa_cons (pe_callTy call_list_of (by rfl) T.g_list boot_list (pa_cons (pv 1) pa_nil)) (pa_cons (pv 6) (pa_cons (pe_ix ix_tup (pv 1) pe_int (fun _ _ => rfl)) (pa_cons (pe_disp (pps_cons (pe_ix ix_tup (pv 1) pe_int (fun _ _ => rfl)) (pe_slice sl_tupZ (pv 1) (po_some pe_int) po_none) pps_nil) rfl rfl (by simp) (by decide))
          (pa_cons (pe_op op_catZ (pv 1) (pv 1)) (pa_cons (pe_tup (pa_cons (pv 1) pa_nil)) pa_nil))))))) pa_nil))))) pss_nil)
    (pss_one (ps_ret (pe_op op_catZ (pe_op op_catZ (pe_slice sl_tupZ (pv 1) po_none (po_some (pv 2))) (pe_tup (pa_cons (pv 6) pa_nil))) (pe_slice sl_tupZ (pv 1) (po_some (pe_op op_add (pv 2) pe_int)) po_none))))))))
    , fun En a p l st H G i dp v4 xs M ok hl la z al k => ?_⟩
  refine ⟨_, rfl, _, rfl, a, l, xs, rfl, M.wl, la, hl, by omega, by omega, fun G1 odd hx w1 b1 => ?_⟩
  have M1 := M.but b1 w1
  have O1 := (al odd hx).bx (Bx.but b1)
  clear al hx M hl la z b1 w1
  refine ⟨_, rfl, a, 6, rfl, M1.wl, by decide, by decide, fun G2 d d0 d1 w2 b2 => ?_⟩
  have M2 := M1.but b2 w2
  have O2 := O1.bx (Bx.but b2)
  clear M1 O1 b2 w2
  obtain ⟨zz, us, hp, lu, fz, ob⟩ := st_obs (K := K) M2.wl M2.st ok
  have fin : ∀ {q : Addr} {G : Hp} {ys : List V}, Same G2 G → SqT K G q ys → Obs K a G ys → ys.length ≤ 1000 → En.rt (.ref q) G := fun S hq o ly => k _ _ (M2.same S) (o.tupT (M2.same S).wl ly hq)
  have cl : ∀ lo hi, (cutV (V.str zz :: us) lo hi).length ≤ 4 := fun lo hi => by
    have := (ob.cut lo hi).2
    simp only [List.length_cons] at this
    omega
  refine ⟨_, rfl, rfl, _, rfl, ?_⟩
  by_cases e0 : d = 0
  · rw [show decide (V.int d = V.int 0) = true by simp [e0]]
    refine iteT ⟨_, rfl, _, rfl, _, rfl, p, _, rfl, SqT.of hp, fun q1 G3 S3 hq1 => ?_⟩
    refine ⟨_, rfl, _, rfl, _, _, rfl, rfl, _, rfl, p, _, rfl, SqT.of (S3 _ _ hp), fun q2 G4 S4 hq2 => ?_⟩
    have c1 := cl none (some i)
    have c2 := cl (some (i + 1)) none
    refine ⟨q1, q2, _, _, rfl, rfl, sqT_same' S4 hq1, hq2, by omega, fun q5 G5 S5 hq5 => ?_⟩
    have S := (S3.trans S4).trans S5
    exact fin S hq5 (((ob.cut none (some i)).1.app (ob.cut (some (i + 1)) none).1).bx (Bx.same S)) (by rw [List.length_append]; omega)
  rw [show decide (V.int d = V.int 0) = false by simp [e0]]
  refine iteF ⟨_, rfl, rfl, _, rfl, ?_⟩
  by_cases e1 : d = 1
  · rw [show decide (V.int d = V.int 1) = true by simp [e1]]
    refine iteT ⟨_, rfl, _, rfl, _, rfl, p, _, rfl, SqT.of hp, fun q1 G3 S3 hq1 => ?_⟩
    refine ⟨_, rfl, (show 1 ≤ sizeLine by decide), fun t nt => ?_⟩
    have St := Same.new (o := .tup [odd]) nt
    have c1 := cl none (some i)
    refine ⟨q1, t, _, _, rfl, rfl, sqT_same' St hq1, SqT.of upd_same, by simp only [List.length_cons, List.length_nil]; omega, fun q2 G4 S4 hq2 => ?_⟩
    have S34 := (S3.trans St).trans S4
    refine ⟨_, rfl, _, rfl, _, rfl, p, _, rfl, SqT.of (S34 _ _ hp), fun q3 G5 S5 hq3 => ?_⟩
    have c2 := cl (some i) none
    refine ⟨q2, q3, _, _, rfl, rfl, sqT_same' S5 hq2, hq3, by rw [List.length_append, List.length_singleton]; omega, fun q6 G6 S6 hq6 => ?_⟩
    have S := (S34.trans S5).trans S6
    exact fin S hq6 ((((ob.cut none (some i)).1.app O2.one).app (ob.cut (some i) none).1).bx (Bx.same S)) (by rw [List.length_append, List.length_append, List.length_singleton]; omega)
  rw [show decide (V.int d = V.int 1) = false by simp [e1]]
  refine iteF ⟨_, rfl, rfl, _, rfl, ?_⟩
  by_cases e2 : d = 2
  case neg =>
    rw [show decide (V.int d = V.int 2) = false by simp [e2]]
    refine iteF ⟨_, rfl, _, rfl, _, rfl, p, _, rfl, SqT.of hp, fun q1 G3 S3 hq1 => ?_⟩
    refine ⟨_, rfl, (show 1 ≤ sizeLine by decide), fun t nt => ?_⟩
    have St := Same.new (o := .tup [odd]) nt
    have c1 := cl none (some i)
    refine ⟨q1, t, _, _, rfl, rfl, sqT_same' St hq1, SqT.of upd_same, by simp only [List.length_cons, List.length_nil]; omega, fun q2 G4 S4 hq2 => ?_⟩
    have S34 := (S3.trans St).trans S4
    refine ⟨_, rfl, _, rfl, _, _, rfl, rfl, _, rfl, p, _, rfl, SqT.of (S34 _ _ hp), fun q3 G5 S5 hq3 => ?_⟩
    have c2 := cl (some (i + 1)) none
    refine ⟨q2, q3, _, _, rfl, rfl, sqT_same' S5 hq2, hq3, by rw [List.length_append, List.length_singleton]; omega, fun q6 G6 S6 hq6 => ?_⟩
    have S := (S34.trans S5).trans S6
    exact fin S hq6 ((((ob.cut none (some i)).1.app O2.one).app (ob.cut (some (i + 1)) none).1).bx (Bx.same S)) (by rw [List.length_append, List.length_append, List.length_singleton]; omega)
  rw [show decide (V.int d = V.int 2) = true by simp [e2]]
  refine iteT ⟨_, rfl, _, rfl, p, _, rfl, .inr (SqT.of hp), fun l1 n1 => ?_⟩
  have S1 := Same.new (o := .lst (.str zz :: us)) n1
  have h1 := upd_same (H := G2) (a := l1) (o := .lst (.str zz :: us))
  have a1 := M2.wl.new n1
  have hp1 := S1 _ _ hp
  generalize upd G2 l1 (.lst (.str zz :: us)) = G3 at S1 h1 hp1 ⊢
  refine ⟨_, rfl, _, rfl, _, _, _, _, rfl, rfl, SqT.of hp1, at0, fun dd ndd => ⟨_, rfl, _, _, _, _, rfl, rfl, SqT.of ((Same.new ndd) _ _ hp1), at0, _, rfl, 1, rfl, p, _, rfl, SqT.of ((Same.new ndd) _ _ hp1), fun q1 G4 S4 hq1 => ?_⟩⟩
  have Sd := Same.new (o := .dK []) ndd
  have hd4 := S4 _ _ (upd_same (H := G3) (a := dd) (o := .dK []))
  refine ⟨hd4, [(.inr zz, .ref q1)], rfl, (show 1 ≤ 15 by decide), ?_⟩
  have S5 : Same G3 (upd G4 dd (.dK (mergeK [] [(.inr zz, .ref q1)]))) := fun b o e => by
    rw [upd_ne (ne_of_none e ndd)]
    exact (Sd.trans S4) b o e
  have hd5 := upd_same (H := G4) (a := dd) (o := .dK (mergeK [] [(.inr zz, .ref q1)]))
  have hp5 := S5 _ _ hp1
  have h15 := S5 _ _ h1
  have S25 := S1.trans S5
  clear Sd hd4 S4 hq1 S5 S1 ndd h1 hp1 n1
  generalize upd G4 dd (.dK (mergeK [] [(.inr zz, .ref q1)])) = G5 at hd5 hp5 h15 S25 ⊢
  refine ⟨_, rfl, _, rfl, p, p, _, _, rfl, rfl, SqT.of hp5, SqT.of hp5, by simp only [List.length_cons]; omega, fun q2 G6 S6 hq2 => ?_⟩
  refine ⟨_, rfl, (show 1 ≤ sizeLine by decide), fun t nt => ⟨(show 6 ≤ sizeLine by decide), fun L nL => ?_⟩⟩
  have St := Same.new (o := .tup [.ref p]) nt
  have ht := upd_same (H := G6) (a := t) (o := .tup [.ref p])
  have S56 := S6.trans St
  have S26 := S25.trans S56
  have M7 := M2.same S26
  have all : AllOb K a (upd G6 t (.tup [.ref p])) [.ref l1, odd, .str zz, .ref dd, .ref q2, .ref t] := by
    have obp : Ob K a (upd G6 t (.tup [.ref p])) (.ref p) := (ob.bx (Bx.same S26)).tupT M7.wl (by simp only [List.length_cons]; omega) (SqT.of (S56 _ _ hp5))
    exact .cons ((ob.bx (Bx.same S26)).lst (by simp only [List.length_cons]; omega) a1 (S56 _ _ h15)) (.cons (O2.bx (Bx.same S26)) (.cons (.str fz) (.cons (.dct M7.wl (S56 _ _ hd5)) (.cons (((ob.app ob).bx (Bx.same S26)).tupT M7.wl (by rw [List.length_append]; simp only [List.length_cons]; omega) (sqT_same' St hq2)) (.cons (obp.one.tupT M7.wl (Nat.le_of_ble_eq_true rfl) (SqT.of ht)) .nil)))))
  clear S56 St S6 hq2 hd5 hp5 h15 nt ht
  generalize upd G6 t (.tup [.ref p]) = G7 at S26 M7 all nL ⊢
  have z : ([.ref l1, odd, .str zz, .ref dd, .ref q2, .ref t] : List V).length = 6 := rfl
  generalize ([.ref l1, odd, .str zz, .ref dd, .ref q2, .ref t] : List V) = zs at all z ⊢
  have SL := Same.new (o := .lst zs) nL
  have M8 := M7.same SL
  refine ⟨a, L, zs, rfl, M8.wl, M7.wl.new nL, upd_same, by omega, by omega, fun G9 x hx w9 b9 => ?_⟩
  exact k G9 x (M8.but b9 w9) (((all x hx).bx (Bx.same SL)).bx (Bx.but b9))
theorem ok_bent (F : FnP K "_law_bent" sBent f fd) (T : Txt K mg w) (fns : Fns K) : FnOk P w K mg base CX0 5 f fd ["_law_well_here", "_law_step"] (spBent K) := by
  refine F.ok scBent (fun vs H Q E h => ?_) (fun cdv A outer s H vs Q E hr h => ?_)
  · obtain ⟨_, _, _, rfl, _⟩ := h
    rfl
  obtain ⟨a, p, st, rfl, wl, at_, ok, k⟩ := h
  obtain ⟨t3, q3, r3⟩ := bent3 (P := P) (w := w) (f := f) (cdv := cdv) (A := A) (outer := outer) (s := s) (H0 := H) (E := E) (base := base) T fns hr
  obtain ⟨t2, q2, r2⟩ := bent2 T q3
  obtain ⟨t1, q1, r1⟩ := bent1 T fns hr q2
  refine ⟨t1, PSs.nox q1, ?_⟩
  refine r1 _ a p st H wl at_ ok fun i dp v4 G M i0 O => ?_
  refine r2 _ a p st H G i dp v4 M O fun l xs G M hl la z al => ?_
  exact r3 _ a p l st H G i dp v4 xs M ok hl la z al fun G x M O => k G x M.wl M.bt O
end
end K01

set_option maxRecDepth 100000
set_option maxHeartbeats 4000000
namespace K01
open PySem PySem.Spec PyProof.Rows L2 He VH RZ
/-! what is a statement is one of all statements -/
def Tot (x : Tr) : Prop := ∀ u, ∃ b, Tr.eq x u = some b
theorem tot_str (z : Str) : Tot (.str z) := fun u => by cases u <;> simp [Tr.eq]
theorem tot_eqs : ∀ {ts : List Tr}, (∀ x ∈ ts, Tot x) → ∀ us, ∃ b, Tr.eqs ts us = some b
  | [], _, [] => ⟨true, by simp [Tr.eqs]⟩
  | [], _, _ :: _ => ⟨false, by simp [Tr.eqs]⟩
  | _ :: _, _, [] => ⟨false, by simp [Tr.eqs]⟩
  | t :: ts, h, u :: us => by
    obtain ⟨b, hb⟩ := h t (List.mem_cons_self ..) u
    obtain ⟨c, hc⟩ := tot_eqs (fun x hx => h x (List.mem_cons_of_mem _ hx)) us
    exact ⟨b && c, by simp [Tr.eqs, hb, hc]⟩
theorem tot_tup {ts : List Tr} (h : ∀ x ∈ ts, Tot x) : Tot (.tup ts) := fun u => by
  cases u with
  | tup us =>
    obtain ⟨b, hb⟩ := tot_eqs h us
    exact ⟨b, by simp [Tr.eq, hb]⟩
  | _ => simp [Tr.eq]
theorem tot_strs (ws : List Str) : ∀ x ∈ ws.map Tr.str, Tot x := fun x hx => by
  obtain ⟨z, _, rfl⟩ := List.mem_map.mp hx
  exact tot_str z
theorem Stp.tot (s : Stp) : Tot s.tr := by
  unfold Stp.tr
  split
  · exact tot_tup fun x hx => by
      rcases List.mem_cons.mp hx with rfl | hx
      · exact tot_str _
      · exact tot_strs _ x hx
  · exact tot_tup fun x hx => by
      rcases List.mem_cons.mp hx with rfl | hx
      · exact tot_str _
      · rcases List.mem_append.mp hx with hx | hx
        · exact tot_strs _ x hx
        · rw [List.mem_singleton.mp hx]
          exact tot_tup (tot_strs _)
theorem tot_any (u : Tr) : ∀ ss : List Stp, ∃ b, Tr.anyEq (ss.map Stp.tr) u = some b
  | [] => ⟨false, by simp [Tr.anyEq]⟩
  | s :: ss => by
    obtain ⟨b, hb⟩ := s.tot u
    obtain ⟨c, hc⟩ := tot_any u ss
    exact ⟨b || c, by simp [Tr.anyEq, hb, hc]⟩
theorem st_any : ∀ s ∈ allSt, Tr.anyEq (allL.map Stp.tr) s.tr = some true := by decide +kernel
theorem L_deps : Tr.deps (allL.map Stp.tr) ≤ 60 := by decide +kernel
theorem mid_strs : ∀ (ps : List (List Str)) (ts : List Tr), midT ts ps = true → ∃ ms : List Str, ts = ms.map Tr.str ∧ ms.length = ps.length ∧ (ms.zip ps).all (fun q => q.2.contains q.1) = true
  | [], [], _ => ⟨[], rfl, rfl, rfl⟩
  | [], _ :: _, h => by simp [midT] at h
  | _ :: _, [], h => by simp [midT] at h
  | p :: ps, t :: ts, h => by
    unfold midT at h
    simp only [List.length_cons, List.zip_cons_cons, List.all_cons, Bool.and_eq_true, decide_eq_true_eq] at h
    obtain ⟨l, h1, h2⟩ := h
    obtain ⟨ms, e1, e2, e3⟩ := mid_strs ps ts (by
      unfold midT
      rw [h2, decide_eq_true (by omega)]
      rfl)
    cases t with
    | str z =>
      refine ⟨z :: ms, by rw [e1]; rfl, by simp [e2], ?_⟩
      simp only [List.zip_cons_cons, List.all_cons, Bool.and_eq_true]
      exact ⟨h1, e3⟩
    | _ => cases h1
/-- no other is one -/
theorem st_of {t : Tr} (h : isSt t = true) : ∃ s : Stp, s.ok = true ∧ s.tr = t := by
  match t, h with
  | .tup (.str w :: t0 :: ts), h =>
    have h : (heads.contains w && restT w (t0 :: ts)) = true := h
    rw [Bool.and_eq_true] at h
    obtain ⟨hw, hr⟩ := h
    generalize t0 :: ts = us at hr
    unfold restT at hr
    by_cases wi : w = "insert"
    · rw [if_pos wi] at hr
      obtain ⟨ms, e1, e2, e3⟩ := mid_strs _ _ hr
      refine ⟨⟨w, ms, []⟩, ?_, ?_⟩
      · unfold Stp.ok
        simp only [hw, e2, decide_true, e3, Bool.true_and]
        show (wdsOk [] cks && (w != "insert" || true)) = true
        rw [Bool.or_true]
        decide
      · unfold Stp.tr
        rw [if_pos wi, e1, wi]
    · rw [if_neg wi] at hr
      have key : ∃ cs, us.getLast? = some (.tup cs) ∧ (wdsT cs cks && midT us.dropLast (plcs w)) = true := by
        split at hr
        · rename_i cs e
          exact ⟨cs, e, hr⟩
        · cases hr
      obtain ⟨cs, e, hr⟩ := key
      rw [Bool.and_eq_true] at hr
      obtain ⟨h1, h2⟩ := hr
      obtain ⟨ms, e1, e2, e3⟩ := mid_strs _ _ h2
      unfold wdsT at h1
      cases hs : Tr.strs? cs with
      | none => rw [hs] at h1; cases h1
      | some zs =>
        rw [hs] at h1
        have ez := Tr.strs_some hs
        refine ⟨⟨w, ms, zs⟩, ?_, ?_⟩
        · unfold Stp.ok
          simp only [hw, e2, decide_true, e3, Bool.true_and]
          have h1 : wdsOk zs cks = true := h1
          rw [h1, Bool.true_and, Bool.or_eq_true]
          exact .inl (by simpa using wi)
        · unfold Stp.tr
          rw [if_neg wi]
          have eu : us = ms.map Tr.str ++ [.tup (zs.map Tr.str)] := by
            obtain ⟨ys, rfl⟩ := List.getLast?_eq_some_iff.mp e
            rw [List.dropLast_concat] at e1
            rw [e1, ez]
          rw [eu]
theorem st_in {t : Tr} (h : isSt t = true) : Tr.anyEq (allL.map Stp.tr) t = some true := by
  obtain ⟨s, ok, rfl⟩ := st_of h
  exact st_any s (mem_all ok)
end K01


set_option maxRecDepth 100000
set_option maxHeartbeats 4000000
/-! A lambda made and kept: its function object as a pin. -/
namespace LamX
open PySem PySem.Spec PyProof.Rows L2
theorem inv_pin {X : Cx} {pins : List (Addr × Obj)} {σ : L2.St} {H : Hp} {s : Shared} (I : Inv X pins σ H s) {f : Addr} {o : Obj} (at_ : s.heap.get? f = some o) (n : H f = none) (nf : f ∉ frs X.stack) (nl : f ≠ X.env.locals)
    (nc : ∀ v : Option Value, o.data ≠ .cell v) : Inv X ((f, o) :: pins) σ H s := by
  refine ⟨I.ok, I.os, I.bare, I.base, I.loc, I.cell, I.free, I.freeC, fun p hp => ?_, I.hok, I.len⟩
  have go : p = (f, o) ∨ p ∈ X.pn ++ pins := by
    rcases List.mem_append.mp hp with h | h
    · exact .inr (List.mem_append.mpr (.inl h))
    · rcases List.mem_cons.mp h with h | h
      · exact .inl h
      · exact .inr (List.mem_append.mpr (.inr h))
  rcases go with rfl | h
  · refine ⟨at_, n, nl, fun h => nf ?_, nc⟩
    rcases I.ok.stk with e | ⟨e, _⟩
    · rw [e]; exact h
    · rw [e]
      obtain ⟨x, hx, q⟩ := List.mem_filterMap.mp h
      exact List.mem_filterMap.mpr ⟨x, List.mem_cons_of_mem _ hx, q⟩
  · exact I.pin p h
theorem not_locals {X : Cx} {pins : List (Addr × Obj)} {σ : L2.St} {H : Hp} {s : Shared} (I : Inv X pins σ H s) {f : Addr} {o : Obj} {fd : FuncData} (at_ : s.heap.get? f = some o) (d : o.data = .func fd) : f ≠ X.env.locals := by
  intro e
  subst e
  obtain ⟨m, ⟨o', es, ep, g, dd, _⟩, _⟩ := I.loc
  rw [at_] at g
  cases g
  rw [d] at dd
  cases dd
section
variable {X : Cx} {T : List (Addr × Str)} {c P : Addr} {params : Arguments} {body : Expr} {scope : Scope} {pos : Pos}
/-- the object of a lambda -/
abbrev lamO (X : Cx) (params : Arguments) (body : Expr) (scope : Scope) (pm : Value) (c' : Addr) (ctv : Value) : Obj :=
  PySem.W.kla_obj "<lambda>" (X.env.qual ++ "<lambda>") params body scope (cloFrom X.env.cells scope.names []) pm c' ctv
/-- a lambda without defaults, evaluated: a new pin -/
theorem lam_pin {pins : List (Addr × Obj)} {σ : L2.St} {H : Hp} {s : Shared} {E : Value → Shared → Prop} {Q : Value → Shared → Prop} (I : Inv X pins σ H s) (TB : TabB X.base X.mg c P) (hcode : X.env.code = .ref c)
    (hm : (P, X.env.qual ++ "<lambda>") ∈ T) (hu : ∀ p ∈ T, p.1 = P → p.2 = X.env.qual ++ "<lambda>") (t : Tabs T H) (hd : defaultsOf params X.env = ([], []))
    (hfree : ∀ y ∈ scope.names, y.2 = .free → ∃ c, X.env.cells.lookup y.1 = some c)
    (k : ∀ (f c' : Addr) (pm ctv : Value) (H1 : Hp) (s' : Shared), Inv X ((f, lamO X params body scope pm c' ctv) :: pins) σ H1 s' → ExtN H H1 → Tabs T H1 →
      H1 c' = some (CodeO c' (X.env.qual ++ "<lambda>")) → f ∉ frs X.stack → Q (.ref f) s') :
    wpAny (model X.prog X.w) X.A (eval (.Lambda params body scope pos) X.env) Q E s := by
  refine lam_make2 I TB hcode hm hu t hd hfree fun f c' pm ctv H1 s' I1 ex t1 at_ n nf hc => ?_
  exact k f c' pm ctv H1 s' (inv_pin I1 at_ n nf (not_locals I1 at_ rfl) (fun _ z => by cases z)) ex t1 hc nf
end
end LamX

set_option maxRecDepth 100000
set_option maxHeartbeats 4000000
/-! A lambda with one parameter, called in a def that got it: a() by its default, a(e) by a value. -/
namespace LamX
open PySem PySem.Spec PyProof.Rows L2
section
variable {X : Cx} {pins : List (Addr × Obj)} {σ : L2.St} {H : Hp} {s : Shared}
/-- the context of the def that got it -/
abbrev gotCx (X : Cx) (CXg : CXT) (Ng : List Str) (qg : Str) (sg : Scope) (g : Addr) (cdg : Value) (s : Shared) (H : Hp) (Eg : XK) (pn : List (Addr × Obj)) (xe : Value → Shared → Prop) : Cx :=
  (cxOf CXg X.prog X.w X.K X.mg X.base Ng qg sg g cdg X.A X.stack s H Eg).tr pn xe
theorem act_end {CXg : CXT} {Eg : XK} {Ng : List Str} {qg : Str} {sg : Scope} {g : Addr} {cdg : Value} {pn : List (Addr × Obj)} {xe : Value → Shared → Prop} {W : WX} {E : XK} {Q : VK} {pinsZ : List (Addr × Obj)} {σZ : L2.St} {H1 : Hp} {s1 : Shared} {f : Addr} {args : List Value}
    (tk : Takes (gotCx X CXg Ng qg sg g cdg s H Eg pn xe) W) (hW : ∀ cls d σ' H', E cls d H' → W cls d σ' H') (I1 : Inv (gotCx X CXg Ng qg sg g cdg s H Eg pn xe) pinsZ σZ H1 s1)
    (rc : codeAny (model X.prog X.w) (X.A.deeper (envOfC qg sg s.heap.objs.size g cdg)) (.call (.ref f) ⟨args, []⟩) (CR (L2.CX X.prog X.w) (envOfC qg sg s.heap.objs.size g cdg :: X.stack) X.prog X.w H1 s1 Q E) s1) :
    wpAny (model X.prog X.w) (X.A.deeper (envOfC qg sg s.heap.objs.size g cdg)) (call (.ref f) args) (EP (gotCx X CXg Ng qg sg g cdg s H Eg pn xe) pinsZ σZ Q) xe s1 := by
  have hx : Passes (L2.CX X.prog X.w) (gotCx X CXg Ng qg sg g cdg s H Eg pn xe) E := passes_call tk hW
  refine wpAny_call (codeAny_mono rc fun r s' z => ?_)
  cases r with
  | error e => exact hx pinsZ σZ H1 s1 e s' I1 z
  | ok fl =>
    cases fl with
    | ret u => exact I1.after z
    | next => exact False.elim z
    | brk => exact False.elim z
    | cont => exact False.elim z
/-- a() -/
theorem pe_act1d {CXg : CXT} {Eg : XK} {Ng : List Str} {qg : Str} {sg : Scope} {g f c' T : Addr} {cdg doc pm ctv : Value} {params : Arguments} {body : Expr} {scope : Scope} {k i : Nat} {a q : Str} {iq : Nat} {pn : List (Addr × Obj)} {xe : Value → Shared → Prop} {W : WX} {E : XK} {tb : TE} {p1 p2 : Pos} {x : V}
    (I : Inv X pins σ H s) (L : Lam1 q X.env.scope scope) (nd : X.N.Nodup) (hiq : X.N[iq]? = some q) (hf : s.heap.get? f = some (lamD X params body scope (.ref T) doc pm c' ctv)) (hfn : H f = none) (hfr : f ∉ frs X.stack) (hT : H T = some (.tup [x]))
    (hbind : ∀ (n : Str) (cl : List (Str × Addr)) (doc pm cv ctv : Value), ∃ kk : Option (Array Value) → Sem (List (Str × Value)), bindArgs (PySem.W.kdv_fn "<lambda>" n params (.expr body) scope cl (.ref T) doc pm cv ctv) ⟨[], []⟩ = seqItems? (.ref T) >>= kk ∧ ∀ u, kk (some #[u]) = pure [(q, u)])
    (tk : Takes (gotCx X CXg Ng qg sg g cdg s H Eg pn xe) W) (hW : ∀ cls d σ' H', E cls d H' → W cls d σ' H') (hr : Room (k + 1) (X.A.deeper (envOfC qg sg s.heap.objs.size g cdg)))
    (hbody : ∀ (A : Around) (outer : List Env) (s : Shared) (H : Hp), Room k (A.deeper (lamEnv X scope s.heap.objs.size f c')) → PE (lamCx X A outer s H E scope f c') body tb)
    (hN : Ng[i]? = some a) (hv : Vis sg a) (hd : (a == ("__debug__" : Str)) = false := by decide) (hcd : (a == ("__classdict__" : Str)) = false := by decide) :
    PE (gotCx X CXg Ng qg sg g cdg s H Eg pn xe) (.Call (.Name a p1) [] [] p2)
      (fun σZ HZ Q => σZ[i]? = some (some (.ref f)) ∧ HZ c' = some (CodeO c' (X.env.qual ++ "<lambda>")) ∧ tb (σ.set iq (some x)) HZ Q) := by
  refine ⟨fun pinsZ sZ σZ HZ Q IZ h => ?_⟩
  obtain ⟨hs, hc, ht⟩ := h
  refine wpAny_Call_Name_kw (thn ((pe_var (pos := p1) (i := i) hN hv hd hcd).run pinsZ sZ σZ HZ (fun v H1 => v = .ref f ∧ H1 = HZ) IZ ⟨.ref f, hs, rfl, rfl⟩) fun u s1 ⟨v, H1, I1, r1, q1⟩ => ?_)
  obtain ⟨rfl, rfl⟩ := q1
  obtain rfl : u = Value.ref f := r1
  have of1 : s1.heap.get? f = some (lamD X params body scope (.ref T) doc pm c' ctv) := I1.base.keep f _ hf hfn hfr (fun z => nomatch (show f ∈ ([] : List Addr) from z))
  refine PySem.W.callWith_F0 ⟨_, _, _, _, of1⟩ (act_end tk hW I1 ?_)
  have hT1 : H1 T = some (.tup [x]) := I1.base.tups T _ hT
  obtain ⟨_, its, rv, oT, eT, _, n, dT⟩ := I1.hok T _ hT1
  cases rv with
  | @cons _ ux _ _ rx rn =>
  cases rn
  obtain ⟨kk, hk1, hk2⟩ := hbind (X.env.qual ++ "<lambda>") (cloFrom X.env.cells scope.names []) doc pm (.ref c') ctv
  exact lam1_code I L nd hiq rx I1.env0 hr I1.base of1 hc I1.nolimit (PySem.BindsTo.of_defaults rfl eT dT hk1 (hk2 ux)) (fun h2 => hbody _ _ s1 H1 h2) ht
/-- a(e) -/
theorem pe_act1a {CXg : CXT} {Eg : XK} {Ng : List Str} {qg : Str} {sg : Scope} {g f c' : Addr} {cdg dV doc pm ctv : Value} {params : Arguments} {body e : Expr} {scope : Scope} {k i : Nat} {a q : Str} {iq : Nat} {pn : List (Addr × Obj)} {xe : Value → Shared → Prop} {W : WX} {E : XK} {tb te : TE} {p1 p2 : Pos}
    (I : Inv X pins σ H s) (L : Lam1 q X.env.scope scope) (nd : X.N.Nodup) (hiq : X.N[iq]? = some q) (hf : s.heap.get? f = some (lamD X params body scope dV doc pm c' ctv)) (hfn : H f = none) (hfr : f ∉ frs X.stack)
    (hbind : ∀ (n : Str) (cl : List (Str × Addr)) (doc pm cv ctv u : Value), bindArgs (PySem.W.kdv_fn "<lambda>" n params (.expr body) scope cl dV doc pm cv ctv) ⟨[u], []⟩ = pure [(q, u)])
    (tk : Takes (gotCx X CXg Ng qg sg g cdg s H Eg pn xe) W) (hW : ∀ cls d σ' H', E cls d H' → W cls d σ' H') (hr : Room (k + 1) (X.A.deeper (envOfC qg sg s.heap.objs.size g cdg)))
    (hbody : ∀ (A : Around) (outer : List Env) (s : Shared) (H : Hp), Room k (A.deeper (lamEnv X scope s.heap.objs.size f c')) → PE (lamCx X A outer s H E scope f c') body tb)
    (hN : Ng[i]? = some a) (hv : Vis sg a) (he : PE (gotCx X CXg Ng qg sg g cdg s H Eg pn xe) e te) (hd : (a == ("__debug__" : Str)) = false := by decide) (hcd : (a == ("__classdict__" : Str)) = false := by decide)
    (hst : starEach [e] (gotCx X CXg Ng qg sg g cdg s H Eg pn xe).env = (false, eval e (gotCx X CXg Ng qg sg g cdg s H Eg pn xe).env) :: starEach [] (gotCx X CXg Ng qg sg g cdg s H Eg pn xe).env := by rfl)
    (hpl : (backTo p2 (starEach [] (gotCx X CXg Ng qg sg g cdg s H Eg pn xe).env)).any (·.1) = false := by rfl) :
    PE (gotCx X CXg Ng qg sg g cdg s H Eg pn xe) (.Call (.Name a p1) [e] [] p2)
      (fun σZ HZ Q => σZ[i]? = some (some (.ref f)) ∧ tCons te tNil σZ HZ fun vs H1 => ∃ x, vs = [x] ∧ H1 c' = some (CodeO c' (X.env.qual ++ "<lambda>")) ∧ tb (σ.set iq (some x)) H1 Q) := by
  refine ⟨fun pinsZ sZ σZ HZ Q IZ h => ?_⟩
  obtain ⟨hs, h2⟩ := h
  refine wpAny_Call_Name_kw (thn ((pe_var (pos := p1) (i := i) hN hv hd hcd).run pinsZ sZ σZ HZ (fun v H1 => v = .ref f ∧ H1 = HZ) IZ ⟨.ref f, hs, rfl, rfl⟩) fun u s1 ⟨v, H1, I1, r1, q1⟩ => ?_)
  obtain ⟨rfl, rfl⟩ := q1
  obtain rfl : u = Value.ref f := r1
  have at_ : ∀ {s2 : Shared} {H2 : Hp}, Inv (gotCx X CXg Ng qg sg g cdg s H Eg pn xe) pinsZ σZ H2 s2 → s2.heap.get? f = some (lamD X params body scope dV doc pm c' ctv) := fun I2 => I2.base.keep f _ hf hfn hfr (fun z => nomatch (show f ∈ ([] : List Addr) from z))
  refine PySem.W.callWith_F ⟨_, _, _, _, at_ I1⟩ (thn ((pa_cons he pa_nil hst).run p2 pinsZ s1 σZ H1 _ I1 h2) fun us s2 hh => ?_) hst hpl
  obtain ⟨vs, H2, I2, r, x, rfl, hc, ht⟩ := hh
  refine ⟨⟨_, _, _, _, at_ I2⟩, ?_⟩
  cases r with
  | @cons _ ux _ _ rx rn =>
  cases rn
  exact act_end tk hW I2 (lam1_code I L nd hiq rx I2.env0 hr I2.base (at_ I2) hc I2.nolimit (fun M A E Q hq => by show wpAny M A (bindArgs _ ⟨[ux], []⟩) Q E _; rw [show bindArgs (lamDF X params body scope dV doc pm c' ctv) ⟨[ux], []⟩ = pure [(q, ux)] from hbind _ _ _ _ _ _ _]; exact wpAny_pure hq) (fun h4 => hbody _ _ s2 H2 h4) ht)
end
end LamX

set_option maxRecDepth 100000
set_option maxHeartbeats 4000000
/-! A lambda with one constant default, evaluated: its object a new pin, its defaults a known tuple. -/
namespace LamX
open PySem PySem.Spec PyProof.Rows L2
section
variable {X : Cx} {T : List (Addr × Str)} {c P : Addr} {params : Arguments} {body : Expr} {scope : Scope} {pos : Pos}
theorem frs_new {pins : List (Addr × Obj)} {σ : L2.St} {H : Hp} {s : Shared} (I : Inv X pins σ H s) {f : Addr} (hf : s.heap.objs.size ≤ f) : f ∉ frs X.stack := fun z => by
  rcases List.mem_cons.mp (I.stkSub _ z) with e | e
  · exact Nat.lt_irrefl _ (Nat.lt_of_lt_of_le (e ▸ I.lt) hf)
  · exact I.nofs hf e
theorem lam_tail {pins : List (Addr × Obj)} {σ : L2.St} {H : Hp} {s : Shared} {dV : Value} {E : Value → Shared → Prop} {Q : Value → Shared → Prop} (I : Inv X pins σ H s) (TB : TabB X.base X.mg c P) (hcode : X.env.code = .ref c)
    (hm : (P, X.env.qual ++ "<lambda>") ∈ T) (hu : ∀ p ∈ T, p.1 = P → p.2 = X.env.qual ++ "<lambda>") (t : Tabs T H)
    (hfree : ∀ y ∈ scope.names, y.2 = .free → ∃ c, X.env.cells.lookup y.1 = some c)
    (k : ∀ (f c' : Addr) (doc pm ctv : Value) (H1 : Hp) (s' : Shared), Inv X ((f, lamD X params body scope dV doc pm c' ctv) :: pins) σ H1 s' → ExtN H H1 → Tabs T H1 →
      H1 c' = some (CodeO c' (X.env.qual ++ "<lambda>")) → f ∉ frs X.stack → Q (.ref f) s') :
    wpAny (model X.prog X.w) X.A (makeTail "<lambda>" (X.env.qual ++ "<lambda>") params (.expr body) scope X.env dV .none none pos pos.line) Q E s := by
  obtain ⟨ps, hP, ht, ha⟩ := t _ hm
  have atP := I.hok P _ hP
  have bmP := TB.bm.keeps I.bk
  have pin : ∀ {H1 : Hp} {s' : Shared} {f c' : Addr} {doc pm ctv : Value}, Inv X pins σ H1 s' → s'.heap.get? f = some (lamD X params body scope dV doc pm c' ctv) → H1 f = none → f ∉ frs X.stack →
      Inv X ((f, lamD X params body scope dV doc pm c' ctv) :: pins) σ H1 s' := fun J at_ n nf => inv_pin J at_ n nf (not_locals J at_ rfl) (fun _ z => by cases z)
  cases hc : codeAmong pos ps.toList with
  | some cv =>
    obtain ⟨c', rfl, hco⟩ := ha pos cv hc
    refine PySem.W.kdv_makeTailHit (mg := X.mg) (c := c) (P := P) (ps := ps) (closure_ok hfree) I.ok.glob (I.mod.glob.keeps I.bk) hcode (TB.code.keeps I.bk) atP ht hc bmP fun ctv doc h' tk hx hz => ?_
    have J : Inv X pins σ H { s with heap := h'.push (lamD X params body scope dV doc ((X.mg "__name__").getD .none) c' ctv), toks := tk } := I.kept fun b o e => Heap.get?_push_of_some _ (hx b o e)
    exact k _ c' doc _ ctv H _ (pin J (Heap.get?_push_size _ rfl) (I.hok.fresh hz) (frs_new I hz)) (ExtN.refl H) t hco (frs_new I hz)
  | none =>
    refine PySem.W.kdv_makeTail (mg := X.mg) (c := c) (P := P) (ps := ps) (closure_ok hfree) I.ok.glob (I.mod.glob.keeps I.bk) hcode (TB.code.keeps I.bk) atP ht hc TB.gP bmP fun c' ctv doc h' tk hx hge hlt hrec htb => ?_
    obtain ⟨c2, oc, vs, tq, e2, hoc, hdc, hv⟩ := hrec
    cases e2
    have hz : s.heap.objs.size ≤ h'.objs.size := Nat.le_trans hge (Nat.le_of_lt hlt)
    have nC : H c' = none := I.hok.fresh hge
    have J := inv_table (t' := tk) (more := #[rawInt pos.line, rawInt pos.col, .ref c']) (h' := h'.push (lamD X params body scope dV doc ((X.mg "__name__").getD .none) c' ctv)) I hP
      (fun b o hb e => Heap.get?_push_of_some _ (hx b o hb e)) (Heap.get?_push_of_some _ htb) hge ⟨oc, vs, tq, Heap.get?_push_of_some _ hoc, hdc, hv⟩
    have ext : ExtN H (upd (upd H P (.tbl (ps ++ #[rawInt pos.line, rawInt pos.col, .ref c']))) c' (CodeO c' (X.env.qual ++ "<lambda>"))) := fun b o e n => by
      have n1 : b ≠ c' := ne_of_none e nC
      have n2 : b ≠ P := fun z => by subst z; rw [hP] at e; exact n ps (Option.some.inj e).symm
      rw [upd_ne n1, upd_ne n2]
      exact e
    have nf1 : h'.objs.size ≠ c' := Nat.ne_of_gt hlt
    have nf2 : h'.objs.size ≠ P := Nat.ne_of_gt (Nat.lt_of_lt_of_le (Heap.lt_size atP) hz)
    have hfn : (upd (upd H P (.tbl (ps ++ #[rawInt pos.line, rawInt pos.col, .ref c']))) c' (CodeO c' (X.env.qual ++ "<lambda>"))) h'.objs.size = none := by
      rw [upd_ne nf1, upd_ne nf2]
      exact I.hok.fresh hz
    refine k h'.objs.size c' doc _ ctv _ _ (pin J (Heap.get?_push_size _ rfl) hfn (frs_new I hz)) ext (fun p hp => ?_) upd_same (frs_new I hz)
    by_cases hb : p.1 = P
    · rw [hu p hp hb, hb]
      have eL : (ps ++ #[rawInt pos.line, rawInt pos.col, .ref c']).toList = ps.toList ++ [rawInt pos.line, rawInt pos.col, .ref c'] := by simp
      refine ⟨_, (upd_ne (ne_of_none hP nC)).trans upd_same, eL ▸ PySem.TriplesOk_snoc _ _ _ _ ht, fun p' cv z => ?_⟩
      rw [eL] at z
      rcases among_app _ ht z with z | z
      · obtain ⟨c0, z1, z2⟩ := ha p' cv z
        exact ⟨c0, z1, ext _ _ z2 codeO_ne⟩
      · exact ⟨c', z, upd_same⟩
    · obtain ⟨qs, a1, a2, a3⟩ := t p hp
      refine ⟨qs, ?_, a2, fun p' cv z => ?_⟩
      · rw [upd_ne (ne_of_none a1 nC), upd_ne hb]
        exact a1
      · obtain ⟨c0, z1, z2⟩ := a3 p' cv z
        exact ⟨c0, z1, ext _ _ z2 codeO_ne⟩
/-- lambda q=z: body -/
theorem lam_pin1 {pins : List (Addr × Obj)} {σ : L2.St} {H : Hp} {s : Shared} {E : Value → Shared → Prop} {Q : Value → Shared → Prop} {z : Int} {j : Nat} {dp : Pos} (I : Inv X pins σ H s) (TB : TabB X.base X.mg c P) (hcode : X.env.code = .ref c)
    (hm : (P, X.env.qual ++ "<lambda>") ∈ T) (hu : ∀ p ∈ T, p.1 = P → p.2 = X.env.qual ++ "<lambda>") (t : Tabs T H) (hd : params.defaults = [.Constant (.int z) j dp]) (hk : params.kw_defaults = [])
    (hfree : ∀ y ∈ scope.names, y.2 = .free → ∃ c, X.env.cells.lookup y.1 = some c) (hx : X.xe = E)
    (k : ∀ (f c' Td : Addr) (doc pm ctv : Value) (H1 : Hp) (s' : Shared), Inv X ((f, lamD X params body scope (.ref Td) doc pm c' ctv) :: pins) σ H1 s' → ExtN H H1 → Tabs T H1 →
      H1 c' = some (CodeO c' (X.env.qual ++ "<lambda>")) → H1 Td = some (.tup [.int z]) → f ∉ frs X.stack → Q (.ref f) s') :
    wpAny (model X.prog X.w) X.A (eval (.Lambda params body scope pos) X.env) Q E s := by
  subst hx
  refine PySem.W.kdv_lam (by rw [hd]; rfl) hk ?_
  rw [hd]
  refine PySem.W.kdv_all1 (thn ((pe_int (i := z) (j := j) (pos := dp)).run pins s σ H (fun v H1 => v = .int z ∧ H1 = H) I ⟨rfl, rfl⟩) fun u s1 hh => PySem.W.kdv_all0 ?_)
  obtain ⟨v, H1, I1, rv, rfl, rfl⟩ := hh
  rw [makeFunction_eq]
  simp only [List.zip_nil_right, List.filterMap_nil, List.isEmpty_nil, if_true, pure_bind, List.isEmpty_cons, Bool.false_eq_true, if_false]
  refine wpAny_bind (wpAny_newTextTuple ?_)
  have ln : H1 s1.heap.objs.size = none := I1.hok.fresh (Nat.le_refl _)
  have J : Inv X pins σ (upd H1 s1.heap.objs.size (.tup [.int z])) { s1 with heap := s1.heap.push { cls := .type "tuple", data := .seq ([u] : List Value).toArray } } := by
    refine I1.laid (t' := s1.toks) (fun b o e => Heap.get?_push_of_some _ e) (Nat.le_refl _) ⟨(show 1 ≤ sizeLine by decide), [u], .cons rv .nil, _, Heap.get?_push_size _ rfl, rfl, _, rfl⟩
  have ex : ∀ b o, H1 b = some o → (upd H1 s1.heap.objs.size (.tup [.int z])) b = some o := fun b o e => by rw [upd_ne (ne_of_none e ln)]; exact e
  refine lam_tail J TB hcode hm hu (t.ext ex) hfree fun f c' doc pm ctv H2 s' I2 e2 t2 hc nf => ?_
  exact k f c' _ doc pm ctv H2 s' I2 ((ExtN.of ex).trans e2) t2 hc (e2 _ _ upd_same (fun _ w => by cases w)) nf
end
end LamX

set_option maxRecDepth 100000
set_option maxHeartbeats 4000000
/-! A list comprehension whose element is told with what is known of the def around it. -/
namespace LamX
open PySem PySem.Spec PyProof.Rows L2
section
variable {X : Cx}
/-- what a block, begun at s, knows of the def around it -/
structure Home (X : Cx) (pins : List (Addr × Obj)) (σ : L2.St) (H : Hp) (s : Shared) (fp : List Addr) : Prop where
  inv : Inv X pins σ H s
  its : ∀ b ∈ fp, FpOk X pins H b ∧ b < s.heap.objs.size
/-- within the block: the def around it, as it is now -/
theorem Home.now {pins pinsB : List (Addr × Obj)} {σ σB : L2.St} {H HB : Hp} {s sB : Shared} {fp : List Addr} {scope : Scope} {cenv : Env} (h : Home X pins σ H s fp) (I : Inv (X.blk s H scope cenv fp) pinsB σB HB sB) : Inv X pins σ HB sB :=
  h.inv.call' (ch := fp) I.os I.base I.hok I.bare fun b hb =>
    let z := (h.its b hb).1.2
    ⟨z.2.2.1, z.1, z.2.2.2.1, z.2.2.2.2⟩
theorem lc_home {pins : List (Addr × Obj)} {s : Shared} {σ : L2.St} {H : Hp} {Q : VK} {elt tg iter : Expr} {scope : Scope} {own : List (Str × Nat)} {pos pos' : Pos} {wi : TI} {g : TG} {te : L2.St → TE} {use : Option (Value → Sem Unit)} {Qf : Value → Shared → Prop}
    (hc : X.calm = true) (hN : X.N.Nodup) (I : Inv X pins σ H s) (hi : PI X tg iter wi) (ok : BlkOk X.N X.env.scope scope own)
    (hg : ∀ (s : Shared) (H : Hp) (C : Addr) (cl : List (Str × Addr)) (fp : List Addr), PG (X.blk s H scope (compEnvC scope cl C X.env) fp) tg g)
    (he : ∀ (s : Shared) (H : Hp) (C : Addr) (cl : List (Str × Addr)) (fp : List Addr) (pins : List (Addr × Obj)) (σ : L2.St), Home X pins σ H s fp → PE (X.blk s H scope (compEnvC scope cl C X.env) fp) elt (te σ))
    (hs : ∀ x, foldedSetIterable iter X.env x = pure x) (h : tLc wi g tYes (te σ) (own.map (·.2)) σ H Q)
    (out : ∀ D C s' m H', Inv X pins σ H' s' → Q (.ref D) H' → s'.heap.Ns C m → FpOk X pins H' C → compPost (model X.prog X.w) X.A X.xe use Qf (.ref D) C (.ok .next) s') :
    wpAny (model X.prog X.w) X.A (comprehension (.ListComp elt [⟨tg, iter, [], 0⟩] scope pos) scope X.env pos' (newList []) false (eval iter X.env) use) Qf X.xe s := by
  have up : ∀ y ∈ scope.names, y.2 = .free → ∃ c, X.env.cells.lookup y.1 = some c := fun y hy e => (ok.free y hy e).elim (fun z => I.ok.has _ (.inl z)) (fun z => I.ok.has _ (.inr z))
  refine wpAny_comprehension_free (use := use) rfl hs (closure_ok up) ok.kind (fun y hy e => by rw [ok.uniq y hy, e]) (thn (hi.run pins s σ H _ I h) fun xv sa ha => thn ha fun itv sb hb => ?_)
  obtain ⟨it, fp, tn, J, Hb, rfl, Ib, T, stb, fpb, q⟩ := hb
  refine wpAny_newObj_type (newEnv_comp ?_) (Nat.zero_le _)
  have Dn : Hb sb.heap.objs.size = none := Ib.hok.fresh (Nat.le_refl _)
  obtain ⟨W, ⟨m0, w0⟩, turn⟩ := q _ Dn
  generalize eD : sb.heap.objs.size = D at Dn w0 turn ⊢
  generalize eH : upd Hb D (.lst []) = H3 at w0
  generalize es : ({ sb with heap := sb.heap.push { cls := .type "list", data := .seq ([] : List Value).toArray } } : Shared) = s3
  have hp3 : s3.heap = sb.heap.push { cls := .type "list", data := .seq ([] : List Value).toArray } := by rw [← es]
  have keep3 : ∀ b o, sb.heap.get? b = some o → s3.heap.get? b = some o := fun b o e => by rw [hp3]; exact Heap.get?_push_of_some _ e
  have I3 : Inv X pins σ H3 s3 := by
    rw [← es, ← eH]
    refine Ib.laid (t' := sb.toks) (fun b o e => Heap.get?_push_of_some _ e) (Nat.le_of_eq eD) ⟨Nat.zero_le _, [], 0, .nil, ?_⟩
    rw [← eD]
    exact Heap.get?_push_size _ rfl
  have small : ∀ b ∈ fp, b < sb.heap.objs.size := fun b hb => by
    obtain ⟨o, e, _⟩ := T.obj _ _ stb b hb
    exact Heap.lt_size e
  have home : Home X pins σ H3 s3 fp := by
    refine ⟨I3, fun b hb => ⟨⟨?_, (fpb b hb).2⟩, ?_⟩⟩
    · rw [← eH, upd_ne (by rw [← eD]; exact Nat.ne_of_lt (small b hb))]
      exact (fpb b hb).1
    · rw [hp3, Heap.size_push]
      exact Nat.lt_succ_of_lt (small b hb)
  have I4 := block_start I3 ok hN home.its
  generalize ec : compEnvC scope (cellsFrom (s3.heap.objs.size + 1) scope.names (cloFrom X.env.cells scope.names [])) s3.heap.objs.size X.env = ce at I4
  have pg : PG (X.blk s3 H3 scope ce fp) tg g := by rw [← ec]; exact hg ..
  have pe : PE (X.blk s3 H3 scope ce fp) elt (te σ) := by rw [← ec]; exact he _ _ _ _ _ pins σ home
  have cL : ce.locals = s3.heap.objs.size := by rw [← ec]; rfl
  generalize e4 : ({ s3 with heap := pushCells (s3.heap.push { cls := .type "dict", data := .dict #[] }) scope.names } : Shared) = s4 at I4
  have st4 : tn 0 s4.heap := T.keep _ _ _ stb fun b _ o e => by
    rw [← e4]
    exact pushCells_keeps _ _ _ _ (Heap.get?_push_of_some _ (keep3 b o e))
  have nfp : ∀ b ∈ fp, H3 b = none := fun b hb => (home.its b hb).1.1
  have stat : ∀ {σ' : L2.St} {H' : Hp} {s' : Shared}, Inv (X.blk s3 H3 scope ce fp) [] σ' H' s' → (∀ b ∈ fp, H' b = none) → ∀ b ∈ fp, FpOk (X.blk s3 H3 scope ce fp) [] H' b := fun {σ' H' s'} I' hn b hb =>
    ⟨hn b hb, (I'.ok.exf b hb).1, I'.ok.exfs b hb, .inl hb, fun x c e => (I'.ok.exf b hb).2 x c e, fun p hp => absurd (show p ∈ ([] : List (Addr × Obj)) ++ [] from hp) (by simp)⟩
  let R := compPost (model X.prog X.w) X.A X.xe use Qf (.ref D) s3.heap.objs.size
  have loop : codeAny (model X.prog X.w) X.A (.compLoop (.ListComp elt [⟨tg, iter, [], 0⟩] scope pos) 0 (.ref it) (.ref D) ce) R s4 := by
    refine compLoop_any (fun n s' => ∃ i H', Inv (X.blk s3 H3 scope ce fp) [] (wipe σ (own.map (·.2))) H' s' ∧ tn i s'.heap ∧ (∀ b ∈ fp, H' b = none) ∧ W i n H') ?_ m0 ⟨0, H3, I4, st4, nfp, w0⟩
    rintro n s5 ⟨i, H5, I5, st5, n5, w5⟩
    rcases turn i n H5 w5 with ⟨stop, qq⟩ | ⟨go, Nx, nxt, step⟩
    · refine thnF (T.done (X.blk s3 H3 scope ce fp) rfl rfl rfl hc i [] s5 _ H5 (fun _ _ => False) I5 (stat I5 n5) st5 stop) fun r s6 ⟨hr, I6⟩ => ?_
      subst hr
      have I7 := home.now I6
      obtain ⟨m, hn, _⟩ := I6.loc
      have nC : H5 s3.heap.objs.size = none := cL ▸ (show H5 ce.locals = none from I6.free)
      have hn : s6.heap.Ns s3.heap.objs.size m := cL ▸ (show s6.heap.Ns ce.locals m from hn)
      exact out D _ s6 m H5 I7 qq hn (I3.fpOk (Nat.le_refl _) nC)
    · refine thnF (T.item (X.blk s3 H3 scope ce fp) rfl rfl rfl hc i [] s5 _ H5 (fun _ _ => False) I5 (stat I5 n5) st5 go) fun r s6 ⟨u, hr, h6⟩ => ?_
      subst hr
      refine thnF h6 fun _ s7 ⟨x, H7, I7, r7, y7, st7, n7⟩ => ?_
      refine thnF (pg.run _ s7 _ H7 x u _ (I7.pinned (stat I7 n7) (T.obj _ _ st7)) r7 (step x H7 y7)) fun _ s8 ⟨σ8, H8, I8, hw8, q8⟩ => ?_
      refine thnF ((pts_nil (X := X.blk s3 H3 scope ce fp)).run _ s8 σ8 H8 _ I8 q8) fun b s9 ⟨H9, I9, q9⟩ => ?_
      have fin : ∀ {s' : Shared} {H' : Hp}, Inv (X.blk s3 H3 scope ce fp) ([] ++ pinsAt fp s7.heap) σ8 H' s' → Nx H' → ∃ m, m < n ∧ ∃ i H', Inv (X.blk s3 H3 scope ce fp) [] (wipe σ (own.map (·.2))) H' s' ∧ tn i s'.heap ∧ (∀ b ∈ fp, H' b = none) ∧ W i m H' := fun {s' H'} I' nx => by
        obtain ⟨m', hm, w'⟩ := nxt H' nx
        have at7 : ∀ b ∈ fp, ∀ o, s7.heap.get? b = some o → s'.heap.get? b = some o ∧ H' b = none := fun b hb o e =>
          have z := I'.pin (b, o) (List.mem_append_right _ (List.mem_append_right _ (mem_pinsAt hb e)))
          ⟨z.1, z.2.1⟩
        refine ⟨m', hm, i + 1, H', (I'.unpinned (pins := [])).weak (by rw [← hw8, wipe_length]) (fun j v e => ?_), T.keep _ _ _ st7 fun b hb o e => (at7 b hb o e).1, fun b hb => ?_, w'⟩
        · rw [← hw8] at e
          exact (wipe_some e).1
        · obtain ⟨o, e, _⟩ := T.obj _ _ st7 b hb
          exact (at7 b hb o e).2
      cases b with
      | false => exact fin I9 q9
      | true =>
        refine thnF (pe.run _ s9 σ8 H9 _ I9 q9) fun z s10 ⟨yv, H10, I10, r10, acc, hD10, hz10, nx⟩ => ?_
        exact app_ok (X := X.blk s3 H3 scope ce fp) I10 hD10 hz10 r10 fun s11 I11 => fin I11 nx
  have fin := codeAny_compStart_list loop (T.self X.A 0 _ _ _ st4 loop)
  rw [← ec] at fin
  exact fin
/-- as a value -/
theorem pe_lcH {elt tg iter : Expr} {scope : Scope} {own : List (Str × Nat)} {pos : Pos} {wi : TI} {g : TG} {te : L2.St → TE} (hc : X.calm = true) (hN : X.N.Nodup) (hi : PI X tg iter wi) (ok : BlkOk X.N X.env.scope scope own)
    (hg : ∀ (s : Shared) (H : Hp) (C : Addr) (cl : List (Str × Addr)) (fp : List Addr), PG (X.blk s H scope (compEnvC scope cl C X.env) fp) tg g)
    (he : ∀ (s : Shared) (H : Hp) (C : Addr) (cl : List (Str × Addr)) (fp : List Addr) (pins : List (Addr × Obj)) (σ : L2.St), Home X pins σ H s fp → PE (X.blk s H scope (compEnvC scope cl C X.env) fp) elt (te σ))
    (hs : ∀ x, foldedSetIterable iter X.env x = pure x := by intro _; rfl) :
    PE X (.ListComp elt [⟨tg, iter, [], 0⟩] scope pos) (fun σ H Q => tLc wi g tYes (te σ) (own.map (·.2)) σ H Q) := by
  refine ⟨fun pins s σ H Q I h => ?_⟩
  rw [eval_ListComp]
  refine lc_home hc hN I hi ok hg he hs h fun D C s' m H' I' q hn fpC => ⟨m, hn, fun h'' sb => ?_⟩
  obtain ⟨f0, f1, _, f3, f4, f5⟩ := fpC
  exact ⟨.ref D, H', I'.turned (t' := s'.toks) (fun b o hb e => (sb.2 b hb).trans e) f0 f1 f3 f4 f5, rfl, q⟩
/-- y = [..] on one line, y a plain local -/
theorem ps_setLcH {i : Nat} {y : Str} {py : Pos} {elt tg iter : Expr} {scope : Scope} {own : List (Str × Nat)} {pos spos : Pos} {wi : TI} {g : TG} {te : L2.St → TE} (hc : X.calm = true) (hN : X.N.Nodup) (hy : X.N[i]? = some y) (hyl : X.env.scope.names.lookup y = some .local)
    (hsw : swapsWith (.ListComp elt [⟨tg, iter, [], 0⟩] scope pos) (some (.Name y py)) spos.line X.env = pure true) (hi : PI X tg iter wi) (ok : BlkOk X.N X.env.scope scope own)
    (hg : ∀ (s : Shared) (H : Hp) (C : Addr) (cl : List (Str × Addr)) (fp : List Addr), PG (X.blk s H scope (compEnvC scope cl C X.env) fp) tg g)
    (he : ∀ (s : Shared) (H : Hp) (C : Addr) (cl : List (Str × Addr)) (fp : List Addr) (pins : List (Addr × Obj)) (σ : L2.St), Home X pins σ H s fp → PE (X.blk s H scope (compEnvC scope cl C X.env) fp) elt (te σ))
    (hs : ∀ x, foldedSetIterable iter X.env x = pure x := by intro _; rfl) :
    PS X (.Assign [.Name y py] (.ListComp elt [⟨tg, iter, [], 0⟩] scope pos) spos) (tAsg (fun σ H Q => tLc wi g tYes (te σ) (own.map (·.2)) σ H Q) (gName i)) := by
  refine ⟨fun pins s σ H D I h => ?_⟩
  have h2 : tLc wi g tYes (te σ) (own.map (·.2)) σ H (fun x H1 => gName i x σ H1 D.nx) := h
  rw [exec_Assign_Name_used _ _ _ _ hsw]
  refine wpAny_bind (wpAny_standAt (wpAny_bind (wpAny_bind (thn (lc_home (use := some (assign (.Name y py) X.env)) (Qf := fun _ s' => SP X pins D .next s') hc hN I hi ok hg he hs h2 fun L C s' m H' I' q hn fpC => ?_) fun _ s' hq => wpAny_pure (wpAny_pure hq)))))
  obtain ⟨f0, f1, _, f3, f4, f5⟩ := fpC
  refine wpAny_assign_Name (store_ok2 (v := V.ref L) I' hN hy (.inl hyl) rfl (fun s2 I2 hh => ?_) (.inr hyl))
  obtain ⟨a, sb, ha⟩ := hh
  have ne : C ≠ a := ha.elim (fun z => by rw [z]; exact f1) (fun z e => f4 y a z e.symm)
  exact ⟨m, hn.sameBut sb ne, fun h3 sb3 => ⟨_, H', I2.turned (t' := s2.toks) (fun b o hb e => (sb3.2 b hb).trans e) f0 f1 f3 f4 f5, q⟩⟩
end
end LamX

set_option maxRecDepth 100000
set_option maxHeartbeats 4000000
/-! In a comprehension: a def called with one of several lambdas that the def around keeps. -/
namespace LamX
open PySem PySem.Spec PyProof.Rows L2
/-- a lambda's text; with a default: the parameter, its slot, the number -/
structure LamJ where
  params : Arguments
  body : Expr
  scope : Scope
  dflt : Option (Str × Nat × Int)
/-- the slots as the lambda sees them -/
def LamJ.sl (j : LamJ) (σ : L2.St) : L2.St := match j.dflt with
  | none => σ
  | some (_, i, z) => σ.set i (some (.int z))
/-- it is kept at f -/
def LamJ.At (X : Cx) (j : LamJ) (f c' : Addr) (H : Hp) : Prop := f ∉ frs X.stack ∧ H c' = some (CodeO c' (X.env.qual ++ "<lambda>")) ∧ (match j.dflt with
  | none => ∃ pm ctv, (f, lamO X j.params j.body j.scope pm c' ctv) ∈ X.pn
  | some (_, _, z) => ∃ Td doc pm ctv, (f, lamD X j.params j.body j.scope (.ref Td) doc pm c' ctv) ∈ X.pn ∧ H Td = some (.tup [.int z]))
/-- what is asked of its text, and what its body does -/
structure LamJ.Ok (X : Cx) (k : Nat) (j : LamJ) (t : XK → TE) : Prop where
  fit : match j.dflt with
    | none => LamS X.env.scope j.scope ∧ ∀ (q : Str) (cl : List (Str × Addr)) (pm cv ctv : Value), bindArgs (PySem.W.kla_fn "<lambda>" q j.params j.body j.scope cl pm cv ctv) ⟨[], []⟩ = pure []
    | some (q, i, z) => Lam1 q X.env.scope j.scope ∧ X.N[i]? = some q ∧ ∀ (Td : Addr) (n : Str) (cl : List (Str × Addr)) (doc pm cv ctv : Value), ∃ kk : Option (Array Value) → Sem (List (Str × Value)),
        bindArgs (PySem.W.kdv_fn "<lambda>" n j.params (.expr j.body) j.scope cl (.ref Td) doc pm cv ctv) ⟨[], []⟩ = seqItems? (.ref Td) >>= kk ∧ ∀ u, kk (some #[u]) = pure [(q, u)]
  does : ∀ (A : Around) (outer : List Env) (s : Shared) (H : Hp) (E : XK) (f c' : Addr), Room k (A.deeper (lamEnv X j.scope s.heap.objs.size f c')) → PE (lamCx X A outer s H E j.scope f c') j.body (t E)
theorem LamJ.Ok.up {X : Cx} {k : Nat} {j : LamJ} {t : XK → TE} (o : LamJ.Ok X k j t) : ∀ y ∈ j.scope.names, y.2 = .free → X.env.scope.names.lookup y.1 = some .cell ∨ X.env.scope.names.lookup y.1 = some .free := by
  obtain ⟨params, body, scope, dflt⟩ := j
  obtain ⟨fit, _⟩ := o
  match dflt, fit with
  | none, fit => exact fit.1.free
  | some (_, _, _), fit => exact fit.1.up
theorem LamJ.acts {X : Cx} {k : Nat} {j : LamJ} {t : XK → TE} (o : LamJ.Ok X k j t) (nd : X.N.Nodup) {pins : List (Addr × Obj)} {σ : L2.St} {H : Hp} {s : Shared} (I : Inv X pins σ H s) {f c' : Addr} (at_ : j.At X f c' H)
    {Ng : List Str} {x a : Str} {sg : Scope} {g : Addr} {cdg : Value} (hN : Ng[0]? = some a) (hv : Vis sg a) (hd : (a == ("__debug__" : Str)) = false) (hcd : (a == ("__classdict__" : Str)) = false)
    (hr : Room (k + 1) (X.A.deeper (envOfC x sg s.heap.objs.size g cdg))) (W : WX) (pn : List (Addr × Obj)) (xe : Value → Shared → Prop) (E : XK) (p1 p2 : Pos)
    (tk : Takes ((cxOf C8.CX0 X.prog X.w X.K X.mg X.base Ng x sg g cdg X.A X.stack s H C8.E0).tr pn xe) W) (hW : ∀ cls d σ' H', E cls d H' → W cls d σ' H') :
    PE ((cxOf C8.CX0 X.prog X.w X.K X.mg X.base Ng x sg g cdg X.A X.stack s H C8.E0).tr pn xe) (.Call (.Name a p1) [] [] p2)
      (fun σZ HZ Q => σZ[0]? = some (some (.ref f)) ∧ HZ c' = some (CodeO c' (X.env.qual ++ "<lambda>")) ∧ t E (j.sl σ) HZ Q) := by
  obtain ⟨params, body, scope, dflt⟩ := j
  obtain ⟨fit, does⟩ := o
  obtain ⟨nf, hc, at_⟩ := at_
  match dflt, fit, at_ with
  | none, fit, at_ =>
    obtain ⟨pm, ctv, mem⟩ := at_
    obtain ⟨h1, h2, _⟩ := I.pin _ (List.mem_append.mpr (.inl mem))
    exact pe_act (i := 0) I fit.1 h1 h2 nf (fit.2 ..) tk hW hr (fun A outer s H h => does A outer s H E f c' h) hN hv hd hcd
  | some (q, i, z), fit, at_ =>
    obtain ⟨Td, doc, pm, ctv, mem, hT⟩ := at_
    obtain ⟨h1, h2, _⟩ := I.pin _ (List.mem_append.mpr (.inl mem))
    exact pe_act1d (i := 0) I fit.1 nd fit.2.1 h1 h2 nf hT (fit.2.2 Td) tk hW hr (fun A outer s H h => does A outer s H E f c' h) hN hv hd hcd
def tPinH (X : Cx) (l : Nat → LamJ) (n : Nat) (t : Nat → XK → TE) (TT : (XK → Hp → VK → Prop) → Hp → VK → Prop) (te : TE) (σ : L2.St) : TE := fun σB HB Q =>
  te σB HB fun v H1 => ∃ (j : Nat) (f c' : Addr), j < n ∧ v = .ref f ∧ (l j).At X f c' H1 ∧ TT (fun E H' Q' => t j E ((l j).sl σ) H' Q') H1 Q
theorem pe_pinH {X : Cx} {TT : (XK → Hp → VK → Prop) → Hp → VK → Prop} {x a : Str} {g : Addr} {k n : Nat} {pg : Arguments} {bg : List Stmt} {sg : Scope} {dV kV doc pm cdv ct oc : Value}
    {an od : Option Addr} {osl : Array (Option Value)} {Ng : List Str} {l : Nat → LamJ} {t : Nat → XK → TE} {e : Expr} {te : TE} {p pos : Pos}
    {pins : List (Addr × Obj)} {σ : L2.St} {s0 : Shared} {H0 : Hp} {fp : List Addr} {scope : Scope} {cenv : Env} (home : Home X pins σ H0 s0 fp) (nd : X.N.Nodup)
    (hg : Gl (X.blk s0 H0 scope cenv fp) x) (hm : X.mg x = some (.ref g)) (hk : PySem.W.keepIn X.K (.ref g) = true)
    (lk : X.K.lookup g = some ⟨oc, od, .func (PySem.W.fnOf x x pg bg sg dV kV doc pm an cdv ct), osl⟩) (hcg : PySem.W.codeIn X.K cdv x = true)
    (hb : L2.Binds X.K (PySem.W.fnOf x x pg bg sg dV kV doc pm an cdv ct) [a] []) (Sg : FnScope Ng [a] sg) (hNg : Ng[0]? = some a) (hva : Vis sg a)
    (hG : GivesTo X Ng x sg g cdv bg a (X.env.qual ++ "<lambda>") TT) (hr : Room (k + 2) X.A) (he : PE (X.blk s0 H0 scope cenv fp) e te)
    (L : ∀ j < n, LamJ.Ok X k (l j) (t j))
    (hdb : (x == ("__debug__" : Str)) = false := by decide) (hd : (a == ("__debug__" : Str)) = false := by decide) (hcd : (a == ("__classdict__" : Str)) = false := by decide)
    (hst : starEach [e] cenv = (false, eval e cenv) :: starEach [] cenv := by rfl) (hpl : (backTo pos (starEach [] cenv)).any (·.1) = false := by rfl) :
    PE (X.blk s0 H0 scope cenv fp) (.Call (.Name x p) [e] [] pos) (tPinH X l n t TT te σ) := by
  refine ⟨fun pinsB sB σB HB Q I h => ?_⟩
  refine wpAny_Call_Name_kw (ld_glob I hg hm ?_ hdb)
  have h2 : tCons te tNil σB HB (fun vs H1 => match vs with
      | [v] => ∃ (j : Nat) (f c' : Addr), j < n ∧ v = .ref f ∧ (l j).At X f c' H1 ∧ TT (fun E H' Q' => t j E ((l j).sl σ) H' Q') H1 Q
      | _ => False) := h
  refine PySem.W.callWith_K (h₀ := X.base) I.ok.mod.kin hk (thn ((pa_cons he pa_nil hst).run pos pinsB sB σB HB _ I h2) fun us s1 hh => ?_) hst hpl
  obtain ⟨vs, H1, I1, r, q⟩ := hh
  refine ⟨I1.kIn, ?_⟩
  match vs, r, q with
  | [v], r, q =>
    obtain ⟨j, f, c', lt, rfl, at_, tt⟩ := q
    have I2 := home.now I1
    cases r with
    | cons r0 r1 =>
    cases r1
    cases r0
    have rc := run_ofS lk hcg Sg hr I2.env0 (hb s1 [Value.ref f] I1.kIn rfl) (.cons rfl .nil) rfl (CX := C8.CX0) (Q := Q) (E := C8.E0) (vs := [V.ref f]) fun hr' => by
      obtain ⟨t', ht', hq'⟩ := hG f c' s1 H1 Q (fun E H' Q' => t j E ((l j).sl σ) H' Q') (fun W pn xe E p1 p2 tk hW => LamJ.acts (L j lt) nd I2 at_ hNg hva hd hcd hr' W pn xe E p1 p2 tk hW) at_.2.1 tt
      exact ⟨t', PSs.nox ht', hq'⟩
    refine wpAny_call (codeAny_mono rc fun r s2 hq => ?_)
    cases r with
    | error er => exact False.elim hq
    | ok fl =>
      cases fl with
      | ret u => exact I1.after hq
      | next => exact False.elim hq
      | brk => exact False.elim hq
      | cont => exact False.elim hq
end LamX

set_option maxRecDepth 100000
set_option maxHeartbeats 4000000
/-! x = [lambda .., ..] and x.append(lambda ..): the block behind them keeps the lambdas as pins. -/
namespace LamX
open PySem PySem.Spec PyProof.Rows L2
inductive All2 {α β : Type} (R : α → β → Prop) : List α → List β → Prop
  | nil : All2 R [] []
  | cons {a b l m} : R a b → All2 R l m → All2 R (a :: l) (b :: m)
theorem All2.imp {α β : Type} {R S : α → β → Prop} (h : ∀ a b, R a b → S a b) : ∀ {l : List α} {m : List β}, All2 R l m → All2 S l m
  | _, _, .nil => .nil
  | _, _, .cons a b => .cons (h _ _ a) (b.imp h)
theorem All2.len {α β : Type} {R : α → β → Prop} : ∀ {l : List α} {m : List β}, All2 R l m → l.length = m.length
  | _, _, .nil => rfl
  | _, _, .cons _ b => by simp [b.len]
/-- kept at f, among the pins M -/
def LamJ.In (X : Cx) (M : List (Addr × Obj)) (j : LamJ) (f c' : Addr) (H : Hp) : Prop := f ∉ frs X.stack ∧ H c' = some (CodeO c' (X.env.qual ++ "<lambda>")) ∧ (match j.dflt with
  | none => ∃ pm ctv, (f, lamO X j.params j.body j.scope pm c' ctv) ∈ M
  | some (_, _, z) => ∃ Td doc pm ctv, (f, lamD X j.params j.body j.scope (.ref Td) doc pm c' ctv) ∈ M ∧ H Td = some (.tup [.int z]))
theorem LamJ.In.mono {X : Cx} {M M' : List (Addr × Obj)} {j : LamJ} {f c' : Addr} {H H' : Hp} (h : j.In X M f c' H) (m : ∀ q ∈ M, q ∈ M') (e : ExtN H H') : j.In X M' f c' H' := by
  obtain ⟨params, body, scope, dflt⟩ := j
  obtain ⟨h1, h2, h3⟩ := h
  refine ⟨h1, e _ _ h2 codeO_ne, ?_⟩
  match dflt, h3 with
  | none, ⟨pm, ctv, z⟩ => exact ⟨pm, ctv, m _ z⟩
  | some (_, _, z), ⟨Td, doc, pm, ctv, z1, z2⟩ => exact ⟨Td, doc, pm, ctv, m _ z1, e _ _ z2 (fun _ w => by cases w)⟩
/-- the expression is this lambda -/
structure LamE (X : Cx) (e : Expr) (j : LamJ) : Prop where
  text : ∃ pos, e = .Lambda j.params j.body j.scope pos
  dflt : match j.dflt with
    | none => defaultsOf j.params X.env = ([], [])
    | some (_, _, z) => ∃ k p, j.params.defaults = [.Constant (.int z) k p] ∧ j.params.kw_defaults = []
  up : ∀ y ∈ j.scope.names, y.2 = .free → X.env.scope.names.lookup y.1 = some .cell ∨ X.env.scope.names.lookup y.1 = some .free
section
variable {X : Cx} {T : List (Addr × Str)} {c P : Addr}
theorem lam_any {pins : List (Addr × Obj)} {σ : L2.St} {H : Hp} {s : Shared} {e : Expr} {j : LamJ} {Q : Value → Shared → Prop} (L : LamE X e j) (I : Inv X pins σ H s) (TB : TabB X.base X.mg c P) (hcode : X.env.code = .ref c)
    (hm : (P, X.env.qual ++ "<lambda>") ∈ T) (hu : ∀ p ∈ T, p.1 = P → p.2 = X.env.qual ++ "<lambda>") (t : Tabs T H)
    (k : ∀ (f c' : Addr) (o : Obj) (H1 : Hp) (s' : Shared), Inv X ((f, o) :: pins) σ H1 s' → ExtN H H1 → Tabs T H1 → j.In X [(f, o)] f c' H1 → Q (.ref f) s') :
    wpAny (model X.prog X.w) X.A (eval e X.env) Q X.xe s := by
  obtain ⟨params, body, scope, dflt⟩ := j
  obtain ⟨⟨pos, rfl⟩, hd, up⟩ := L
  have up' : ∀ y ∈ scope.names, y.2 = .free → ∃ c, X.env.cells.lookup y.1 = some c := fun y hy e => (up y hy e).elim (fun z => I.ok.has _ (.inl z)) (fun z => I.ok.has _ (.inr z))
  match dflt, hd with
  | none, hd => exact lam_pin I TB hcode hm hu t hd up' fun f c' pm ctv H1 s' I1 ex t1 hc nf => k f c' _ H1 s' I1 ex t1 ⟨nf, hc, pm, ctv, List.mem_singleton.mpr rfl⟩
  | some (q, i, z), ⟨kk, p, hd1, hd2⟩ => exact lam_pin1 I TB hcode hm hu t hd1 hd2 up' rfl fun f c' Td doc pm ctv H1 s' I1 ex t1 hc hT nf => k f c' _ H1 s' I1 ex t1 ⟨nf, hc, Td, doc, pm, ctv, List.mem_singleton.mpr rfl, hT⟩
/-- several, kept one by one -/
def Kept (X : Cx) (M : List (Addr × Obj)) (H : Hp) (fs : List (Addr × Addr)) (js : List LamJ) : Prop := All2 (fun p (j : LamJ) => j.In X M p.1 p.2 H) fs js
theorem Kept.mono {M M' : List (Addr × Obj)} {H H' : Hp} {fs : List (Addr × Addr)} {js : List LamJ} (h : Kept X M H fs js) (m : ∀ q ∈ M, q ∈ M') (e : ExtN H H') : Kept X M' H' fs js := All2.imp (fun _ _ z => z.mono m e) h
theorem lam_list {E : List Expr} {js : List LamJ} (hE : All2 (LamE X) E js) (TB : TabB X.base X.mg c P) (hcode : X.env.code = .ref c) (hm : (P, X.env.qual ++ "<lambda>") ∈ T) (hu : ∀ p ∈ T, p.1 = P → p.2 = X.env.qual ++ "<lambda>") (pos : Pos) :
    ∀ {pins : List (Addr × Obj)} {σ : L2.St} {H : Hp} {s : Shared} {Q : List Value → Shared → Prop}, Inv X pins σ H s → Tabs T H →
    (∀ (fs : List (Addr × Addr)) (M : List (Addr × Obj)) (H1 : Hp) (s' : Shared), Inv X (M ++ pins) σ H1 s' → ExtN H H1 → Tabs T H1 → Kept X M H1 fs js → Q (fs.map fun p => .ref p.1) s') →
    wpAny (model X.prog X.w) X.A (spliced (backTo pos (starEach E X.env))) Q X.xe s := by
  induction hE with
  | nil =>
    intro pins σ H s Q I t k
    exact Calls.spliced_nil (k [] [] H s I (ExtN.refl H) t .nil)
  | @cons e j es js hj hjs ih =>
    intro pins σ H s Q I t k
    have st : starEach (e :: es) X.env = (false, eval e X.env) :: starEach es X.env := by
      obtain ⟨⟨p, rfl⟩, _, _⟩ := hj
      rfl
    rw [st]
    show wpAny _ _ (spliced ((false, eval e X.env) :: backTo pos (starEach es X.env))) _ _ s
    refine Calls.spliced_cons (lam_any hj I TB hcode hm hu t fun f c' o H1 s1 I1 ex t1 h1 => ?_)
    refine ih I1 t1 fun fs M H2 s2 I2 ex2 t2 h2 => ?_
    have eq : M ++ (f, o) :: pins = (M ++ [(f, o)]) ++ pins := by simp
    rw [eq] at I2
    exact k ((f, c') :: fs) (M ++ [(f, o)]) H2 s2 I2 (ex.trans ex2) t2 (.cons (h1.mono (fun q z => List.mem_append_right _ z) ex2) (h2.mono (fun q z => List.mem_append_left _ z) (ExtN.refl _)))
theorem inv_drop {pins more : List (Addr × Obj)} {σ : L2.St} {H : Hp} {s : Shared} (I : Inv X (more ++ pins) σ H s) : Inv X pins σ H s :=
  ⟨I.ok, I.os, I.bare, I.base, I.loc, I.cell, I.free, I.freeC, fun p hp => I.pin p (by
    rcases List.mem_append.mp hp with z | z
    · exact List.mem_append_left _ z
    · exact List.mem_append_right _ (List.mem_append_right _ z)), I.hok, I.len⟩
/-- what a block tells with the pins of before -/
theorem sp_drop {pins more : List (Addr × Obj)} {D : Ends} {xe : Value → Shared → Prop} {pn' : List (Addr × Obj)} {fl : Flow} {s' : Shared} (ok : X.Ok) (h : SP (X.tr (X.pn ++ (more ++ pins)) xe) pn' D fl s') : SP X pins D fl s' := by
  cases fl with
  | next => obtain ⟨σ', H', I, q⟩ := h; exact ⟨σ', H', inv_drop (I.ofTry ok), q⟩
  | brk => obtain ⟨σ', H', I, q⟩ := h; exact ⟨σ', H', inv_drop (I.ofTry ok), q⟩
  | cont => obtain ⟨σ', H', I, q⟩ := h; exact ⟨σ', H', inv_drop (I.ofTry ok), q⟩
  | ret u => obtain ⟨v, σ', H', I, r, q⟩ := h; exact ⟨v, σ', H', inv_drop (I.ofTry ok), r, q⟩
/-- x = [lambda .., ..] and the block behind it -/
def tLams (X : Cx) (T : List (Addr × Str)) (i : Nat) (js : List LamJ) (u : List (Addr × Obj) → TS) : TS := fun D σ H => Tabs T H ∧ ∀ (pn : List (Addr × Obj)) (fs : List (Addr × Addr)) (H1 : Hp), (∀ q ∈ X.pn, q ∈ pn) → ExtN H H1 → Tabs T H1 → Kept X pn H1 fs js →
  ∀ l, H1 l = none → u pn D (σ.set i (some (.ref l))) (upd H1 l (.lst (fs.map fun p => .ref p.1)))
theorem pss_lams {E : List Expr} {js : List LamJ} {i : Nat} {x : Str} {rest : List Stmt} {u : List (Addr × Obj) → TS} {px lp pos : Pos} (hE : All2 (LamE X) E js) (TB : TabB X.base X.mg c P) (hcode : X.env.code = .ref c)
    (hm : (P, X.env.qual ++ "<lambda>") ∈ T) (hu : ∀ p ∈ T, p.1 = P → p.2 = X.env.qual ++ "<lambda>") (nd : X.N.Nodup) (hi : X.N[i]? = some x) (hx : Loc X.env.scope x) (hz : E.length ≤ sizeLine)
    (hr : ∀ pn : List (Addr × Obj), PSs (X.tr pn X.xe) rest (u pn)) (hs : swapsWith (.List E lp) (some (.Name x px)) pos.line X.env = pure false := by rfl)
    (hf : X.fn x = true ∨ X.env.scope.names.lookup x = some .local := by first | exact .inl rfl | exact .inr rfl | assumption) :
    PSs X (.Assign [.Name x px] (.List E lp) pos :: rest) (tLams X T i js u) := by
  refine ⟨fun pins s σ H D I h => ?_⟩
  obtain ⟨t, h⟩ := h
  refine wpAny_execs_cons (wpAny_Assign_Name (wpAny_List_spliced (lam_list hE TB hcode hm hu lp I t fun fs M H1 s1 I1 ex t1 hk => ⟨?_, ?_⟩)) hs)
  · have e1 := All2.len hk
    have e2 := All2.len hE
    rw [List.length_map, e1, ← e2]
    exact hz
  have ln : H1 s1.heap.objs.size = none := I1.hok.fresh (Nat.le_refl _)
  have I2 : Inv X (M ++ pins) σ (upd H1 s1.heap.objs.size (.lst (fs.map fun p => V.ref p.1))) { s1 with heap := s1.heap.push { cls := .type "list", data := .seq (fs.map fun p => Value.ref p.1).toArray } } := by
    refine I1.laid (t' := s1.toks) (fun b v e => Heap.get?_push_of_some _ e) (Nat.le_refl _) ⟨?_, fs.map (fun p => Value.ref p.1), 0, ?_, Heap.get?_push_size _ rfl⟩
    · have e1 := All2.len hk
      have e2 := All2.len hE
      rw [List.length_map, e1, ← e2]
      exact hz
    · clear hk
      induction fs with
      | nil => exact .nil
      | cons p fs ih => exact .cons rfl ih
  refine store_ok (v := V.ref s1.heap.objs.size) I2 nd hi hx rfl (fun s2 I3 => ?_) hf
  have I4 := I3.toTry X.xe
  have run := (hr (X.pn ++ (M ++ pins))).run [] s2 _ _ D I4 (h _ fs H1 (fun q z => List.mem_append_left _ z) ex t1 (hk.mono (fun q z => List.mem_append_right _ (List.mem_append_left _ z)) (ExtN.refl _)) _ ln)
  exact wpAny_mono run (fun fl s3 z => sp_drop I.ok z) fun e s3 z => z
/-- x.append(lambda ..) and the block behind it -/
def tLamApp (X : Cx) (T : List (Addr × Str)) (i : Nat) (j : LamJ) (u : List (Addr × Obj) → TS) : TS := fun D σ H => ∃ l xs, σ[i]? = some (some (.ref l)) ∧ H l = some (.lst xs) ∧ xs.length < sizeLine ∧ Tabs T H ∧ ∀ (pn : List (Addr × Obj)) (f c' : Addr) (H1 : Hp), (∀ q ∈ X.pn, q ∈ pn) → ExtN H H1 → Tabs T H1 → j.In X pn f c' H1 →
  u pn D σ (upd H1 l (.lst (xs ++ [.ref f])))
theorem pss_lamApp {e : Expr} {j : LamJ} {i : Nat} {x : Str} {rest : List Stmt} {u : List (Addr × Obj) → TS} {px apos cpos epos : Pos} (hj : LamE X e j) (TB : TabB X.base X.mg c P) (hcode : X.env.code = .ref c)
    (hm : (P, X.env.qual ++ "<lambda>") ∈ T) (hu : ∀ p ∈ T, p.1 = P → p.2 = X.env.qual ++ "<lambda>") (hi : X.N[i]? = some x) (hv : Vis X.env.scope x)
    (hr : ∀ pn : List (Addr × Obj), PSs (X.tr pn X.xe) rest (u pn))
    (hst : starEach [e] X.env = (false, eval e X.env) :: starEach [] X.env := by rfl) (hd : (x == ("__debug__" : Str)) = false := by decide) (hcd : (x == ("__classdict__" : Str)) = false := by decide)
    (hbase : attributeBase (.Name x px) "append" X.env (eval (.Name x px) X.env) = eval (.Name x px) X.env := by rfl)
    (hfew : ((backTo cpos (starEach [e] X.env)).all (fun x => !x.1) && (backToKw cpos (keywordEach [] X.env)).all (fun x => x.1.isSome)
      && decide (([e] : List Expr).length + ([] : List Keyword).length + (if ([] : List Keyword).isEmpty then 0 else 1) < 30)) = true := by rfl)
    (hline : (apos.endLine == cpos.line) = true := by rfl) (hplain : (backTo cpos (starEach [] X.env)).any (·.1) = false := by rfl)
    (hsw : swapsWith (.Call (.Attribute (.Name x px) "append" apos) [e] [] cpos) none epos.line X.env = pure false := by rfl) :
    PSs X (.Expr (.Call (.Attribute (.Name x px) "append" apos) [e] [] cpos) epos :: rest) (tLamApp X T i j u) := by
  refine ⟨fun pins s σ H D I h => ?_⟩
  obtain ⟨l, xs, hs, hl, hz, t, h⟩ := h
  refine wpAny_execs_cons (wpAny_Expr_any (wpAny_Call_method_late hbase hfew hline rfl (thn ((pe_var (pos := px) (i := i) hi hv hd hcd).run pins s σ H (fun v H1 => v = .ref l ∧ H1 = H) I ⟨.ref l, hs, rfl, rfl⟩) fun v s1 hh => ?_)) I.quiet hsw)
  obtain ⟨x1, H1, I1, r1, rfl, rfl⟩ := hh
  obtain ⟨h1, h2⟩ := tyV_is (T := "list") I1 r1 (.inl ⟨rfl, xs, SqL.of hl⟩)
  refine ⟨"list", "list.append", PySem.F.plainAttrs_list, PySem.F.slot_list_append, PySem.F.type_list_append, h1, h2, ?_⟩
  rw [hst]
  refine Calls.callWith_builtin (by show (false || (backTo cpos (starEach [] X.env)).any (·.1)) = false; rw [hplain]; rfl) (Calls.evalArgs_plain ?_)
  refine Calls.spliced_cons (lam_any hj I1 TB hcode hm hu t fun f c' o H2 s2 I2 ex t2 h2' => ?_)
  refine Calls.spliced_nil ?_
  have hl2 : H2 l = some (.lst xs) := ex _ _ hl (fun _ z => by cases z)
  refine thn ((mt_append (X := X)) ((f, o) :: pins) s2 σ H2 (.ref l) [.ref f] v [.ref f] (fun _ H' => H' = upd H2 l (.lst (xs ++ [.ref f]))) I2 r1 (.cons rfl .nil) ⟨l, xs, .ref f, rfl, rfl, hl2, hz, rfl⟩) fun w s3 hw => ?_
  obtain ⟨x3, H3, I3, r3, rfl⟩ := hw
  have I4 := I3.toTry X.xe
  have mem : (f, o) ∈ X.pn ++ (f, o) :: pins := List.mem_append_right _ (List.mem_cons_self ..)
  have run := (hr (X.pn ++ ((f, o) :: pins))).run [] s3 _ _ D I4 (h _ f c' H2 (fun q z => List.mem_append_left _ z) ex t2 (h2'.mono (fun q z => by rw [List.mem_singleton.mp z]; exact mem) (ExtN.refl _)))
  exact wpAny_mono run (fun fl s4 z => sp_drop (more := [(f, o)]) I.ok z) fun e s4 z => z
end
end LamX

set_option maxRecDepth 100000
set_option maxHeartbeats 4000000
/-! A def called by keywords alone: f(k = v, ..). -/
namespace L2
open PySem PySem.Spec PyProof.Rows
section
variable {X : Cx} {CX : CXT} {f : Addr} {k : Nat} {fd : FuncData} {x : Str} {ps ks : List Str} {sp : Sp} {E : XK} {kws : List Keyword} {tk : TA} {p pos : Pos} {g : List Value → List Value → List Value} {gV : List V → List V → List V}
def tCallN0 (m : Nat) (sp : Sp) (gV : List V → List V → List V) (E : XK) (tk : TA) : TE := fun σ H Q => tk σ H fun zs H2 => zs.length = m ∧ sp (gV [] zs) H2 Q E
theorem pe_callN0 (F : FnOk X.prog X.w X.K X.mg X.base CX k f fd ps sp) (hr : Room k X.A) (hg : Gl X x) (hm : X.mg x = some (.ref f)) (hk : PySem.W.keepIn X.K (.ref f) = true) (hb : KBn X.K fd ps 0 ks g gV) (hx : Passes CX X E) (hkw : PK X kws tk)
    (hall : (backToKw pos (keywordEach kws X.env)).all (·.1.isSome) = true := by rfl) (hks : (backToKw pos (keywordEach kws X.env)).filterMap (·.1) = ks := by rfl) (hdb : (x == ("__debug__" : Str)) = false := by decide)
    (hpl : ((backTo pos (starEach [] X.env)).any (·.1) || (backToKw pos (keywordEach kws X.env)).any (·.1.isNone)) = false := by rfl) :
    PE X (.Call (.Name x p) [] kws pos) (tCallN0 ks.length sp gV E tk) := by
  refine ⟨fun pins s σ H Q I h => ?_⟩
  refine wpAny_Call_Name_kw (ld_glob I hg hm ?_ hdb)
  refine PySem.W.callWith_KW0 (h₀ := X.base) I.ok.mod.kin hk hall (thn (hkw.run pos pins s σ H _ I h) fun ws s2 hh => ?_) hpl
  obtain ⟨zs, H2, I2, rz, l2, q2⟩ := hh
  refine ⟨I2.kIn, ?_⟩
  rw [hks]
  exact run_fnN (us := []) (vs := []) F hr hb hx I2 .nil rz rfl l2 q2
end
end L2

set_option maxRecDepth 100000
set_option maxHeartbeats 4000000
namespace K01
open PySem PySem.Spec PyProof.Rows L2 He VH RZ
/-! the law's lambdas -/
abbrev sLaw : Stmt := top 26
abbrev nLaw : List Str := ["_law_script", "_law_steps", "_law_k", "_law_well_here", "_law_turn", "_law_step", "_law_due", "_law_asks", "_law_thing", "_law_ask", "_law_of", "_law_by"]
theorem scLaw : FnScope nLaw ["_law_script"] (defScope sLaw) := ⟨rfl, rfl, rfl, by decide +kernel, rfl, by decide +kernel, by decide +kernel⟩
abbrev LwCx (P : Program) (w : World) (K : PySem.W.Frag) (mg : Str → Option Value) (base : Heap) (f : Addr) (cdv : Value) (A : Around) (outer : List Env) (s : Shared) (H : Hp) (E : XK) (pn : List (Addr × Obj)) : Cx :=
  (cxOf CX0 P w K mg base nLaw "law" (defScope sLaw) f cdv A outer s H E).tr pn (fun _ _ => False)
def forB : Stmt → List Stmt
  | .For _ _ b _ _ => b
  | _ => []
def outB : List Stmt := forB ((defBody sLaw).getD 2 (.Pass ⟨0, 0, 0, 0⟩))
def turnB : List Stmt := forB (outB.getD 1 (.Pass ⟨0, 0, 0, 0⟩))
def lamOf (d : Option (Str × Nat × Int)) : Expr → LamX.LamJ
  | .Lambda p b s _ => ⟨p, b, s, d⟩
  | e => ⟨defArgs (top 0), e, defScope (top 0), d⟩
def listAt (i : Nat) : List Expr := match turnB.getD i (.Pass ⟨0, 0, 0, 0⟩) with
  | .Assign _ (.List es _) _ => es
  | _ => []
def itemAt (i j : Nat) : Expr := (listAt i).getD j (.Constant .none 0 ⟨0, 0, 0, 0⟩)
def appAt (i : Nat) : Expr := match turnB.getD i (.Pass ⟨0, 0, 0, 0⟩) with
  | .Expr (.Call _ (e :: _) _ _) _ => e
  | _ => .Constant .none 0 ⟨0, 0, 0, 0⟩
def jA : Nat → LamX.LamJ
  | 0 => lamOf none (itemAt 2 0)
  | 1 => lamOf (some ("_law_of", 10, 0)) (itemAt 2 1)
  | _ => lamOf (some ("_law_by", 11, 0)) (itemAt 2 2)
def jB : Nat → LamX.LamJ
  | 0 => lamOf none (itemAt 4 0)
  | 1 => lamOf (some ("_law_of", 10, 0)) (itemAt 4 1)
  | _ => lamOf (some ("_law_by", 11, 0)) (appAt 5)
def jC : Nat → LamX.LamJ
  | 0 => lamOf none (itemAt 9 0)
  | 1 => lamOf (some ("_law_of", 10, 0)) (itemAt 9 1)
  | _ => lamOf (some ("_law_by", 11, 0)) (itemAt 9 2)
/-- what they do, by place -/
def tP (K : PySem.W.Frag) (v : Nat) (i : Nat) (E : XK) : TE := match i with
  | 0 => tCall (spIst K) [] E0 (tCons (tVar v) tNil)
  | 1 => tCall (spNd K rdW) [] E (tCons (tVar v) tNil)
  | _ => tCall (spNd K tkW) [] E (tCons (tVar v) tNil)
/-- by name -/
def tN (K : PySem.W.Frag) (v : Nat) (i : Nat) (E : XK) : TE := match i with
  | 0 => tCallN0 1 (spIst K) (fun vs zs => vs ++ zs) E0 (tCons (tVar v) tNil)
  | 1 => tCallN0 1 (spNd K rdW) (fun vs zs => vs ++ zs) E (tCons (tVar v) tNil)
  | _ => tCallN0 1 (spNd K tkW) (fun vs zs => vs ++ zs) E (tCons (tVar v) tNil)
theorem kIst {K : PySem.W.Frag} {fd : FuncData} (F : FnIst K fd) : KBn K fd ["value"] 0 ["value"] (fun us ws => us ++ ws) (fun vs zs => vs ++ zs) :=
  FunD.byName F 0 ["value"] (fun us ws => us ++ ws) (fun a b => a.append b) fun _ _ _ _ _ _ us ws l1 l2 => match us, l1, ws, l2 with | [], _, [_], _ => rfl
theorem kNre {K : PySem.W.Frag} {fd : FuncData} (F : FnNre K fd) : KBn K fd ["statement"] 0 ["statement"] (fun us ws => us ++ ws) (fun vs zs => vs ++ zs) :=
  FunD.byName F 0 ["statement"] (fun us ws => us ++ ws) (fun a b => a.append b) fun _ _ _ _ _ _ us ws l1 l2 => match us, l1, ws, l2 with | [], _, [_], _ => rfl
theorem kNin {K : PySem.W.Frag} {fd : FuncData} (F : FnNin K fd) : KBn K fd ["statement"] 0 ["statement"] (fun us ws => us ++ ws) (fun vs zs => vs ++ zs) :=
  FunD.byName F 0 ["statement"] (fun us ws => us ++ ws) (fun a b => a.append b) fun _ _ _ _ _ _ us ws l1 l2 => match us, l1, ws, l2 with | [], _, [_], _ => rfl
theorem mk0 {X : Cx} {k : Nat} {j : LamX.LamJ} {t : XK → TE} {p : Arguments} {e : Expr} {sc : Scope} (h : j = ⟨p, e, sc, none⟩) (L : LamX.LamS X.env.scope sc)
    (hb : ∀ (q : Str) (cl : List (Str × Addr)) (pm cv ctv : Value), bindArgs (PySem.W.kla_fn "<lambda>" q p e sc cl pm cv ctv) ⟨[], []⟩ = pure [])
    (d : ∀ (A : Around) (outer : List Env) (s : Shared) (H : Hp) (E : XK) (f c' : Addr), Room k (A.deeper (LamX.lamEnv X sc s.heap.objs.size f c')) → PE (LamX.lamCx X A outer s H E sc f c') e (t E)) : LamX.LamJ.Ok X k j t := by
  subst h
  exact ⟨⟨L, hb⟩, d⟩
theorem mk1 {X : Cx} {k : Nat} {j : LamX.LamJ} {t : XK → TE} {p : Arguments} {e : Expr} {sc : Scope} {q : Str} {i : Nat} {z : Int} (h : j = ⟨p, e, sc, some (q, i, z)⟩) (L : LamX.Lam1 q X.env.scope sc) (hi : X.N[i]? = some q)
    (hb : ∀ (Td : Addr) (n : Str) (cl : List (Str × Addr)) (doc pm cv ctv : Value), ∃ kk : Option (Array Value) → Sem (List (Str × Value)),
        bindArgs (PySem.W.kdv_fn "<lambda>" n p (.expr e) sc cl (.ref Td) doc pm cv ctv) ⟨[], []⟩ = seqItems? (.ref Td) >>= kk ∧ ∀ u, kk (some #[u]) = pure [(q, u)])
    (d : ∀ (A : Around) (outer : List Env) (s : Shared) (H : Hp) (E : XK) (f c' : Addr), Room k (A.deeper (LamX.lamEnv X sc s.heap.objs.size f c')) → PE (LamX.lamCx X A outer s H E sc f c') e (t E)) : LamX.LamJ.Ok X k j t := by
  subst h
  exact ⟨⟨L, hi, hb⟩, d⟩
theorem le0 {X : Cx} {e b : Expr} {j : LamX.LamJ} {p : Arguments} {sc : Scope} {pos : Pos} {k : Nat} {t : XK → TE} (h : j = ⟨p, b, sc, none⟩) (he : e = .Lambda p b sc pos) (hd : defaultsOf p X.env = ([], [])) (o : LamX.LamJ.Ok X k j t) : LamX.LamE X e j := by
  have u := o.up
  subst h he
  exact ⟨⟨_, rfl⟩, hd, u⟩
theorem le1 {X : Cx} {e b : Expr} {j : LamX.LamJ} {p : Arguments} {sc : Scope} {pos dp : Pos} {k jj i : Nat} {q : Str} {z : Int} {t : XK → TE} (h : j = ⟨p, b, sc, some (q, i, z)⟩) (he : e = .Lambda p b sc pos) (hd : p.defaults = [.Constant (.int z) jj dp]) (hk : p.kw_defaults = []) (o : LamX.LamJ.Ok X k j t) : LamX.LamE X e j := by
  have u := o.up
  subst h he
  exact ⟨⟨_, rfl⟩, ⟨_, _, hd, hk⟩, u⟩
section
variable {P : Program} {w : World} {K : PySem.W.Frag} {mg : Str → Option Value} {base : Heap} {f c Pt : Addr} {A : Around} {outer : List Env} {s : Shared} {H0 : Hp} {E : XK} {pn : List (Addr × Obj)} {dI dR dN : FuncData}
/-- the three that are asked -/
structure Asked (P : Program) (w : World) (K : PySem.W.Frag) (mg : Str → Option Value) (base : Heap) (dI dR dN : FuncData) : Prop where
  GI : FnOk P w K mg base CX0 3 (ga K "is_statement") dI ["value"] (spIst K)
  GR : FnOk P w K mg base (L2.CX P w) 5 (ga K "needs_read") dR ["statement"] (spNd K rdW)
  GN : FnOk P w K mg base (L2.CX P w) 5 (ga K "needs_input") dN ["statement"] (spNd K tkW)
  FI : FnIst K dI
  FR : FnNre K dR
  FN : FnNin K dN
theorem asked (T : Txt K mg w) (fns : Fns K) : ∃ dI dR dN, Asked P w K mg base dI dR dN := by
  obtain ⟨dI, FI⟩ := fns.f_is_statement
  obtain ⟨dR, FR⟩ := fns.f_needs_read
  obtain ⟨dN, FN⟩ := fns.f_needs_input
  obtain ⟨dW, FW⟩ := fns.f_is_word
  obtain ⟨dS, FS⟩ := fns.f_are_words
  obtain ⟨dH, FH⟩ := fns.f_has_word
  obtain ⟨dC, FC⟩ := fns.f_checks_of
  obtain ⟨dO, FO⟩ := fns.f_NoStatement_init
  exact ⟨dI, dR, dN, ok_ist FI T FW FS, ok_nre FR T FH FI FC FO FW FS, ok_nin FN T FH FI FC FO FW FS, FI, FR, FN⟩
theorem okA0 (T : Txt K mg w) (Z : Asked P w K mg base dI dR dN) : LamX.LamJ.Ok (LwCx P w K mg base f (.ref c) A outer s H0 E pn) 5 (jA 0) (tP K 5 0) := by
  refine mk0 (by rfl) (show LamX.LamS (defScope sLaw) _ from LamX.lamS_by (by decide +kernel)) (fun _ _ _ _ _ => rfl) (fun A outer s H E f c' hr => ?_)
  exact pe_call Z.GI (hr.mono (by decide)) (by rfl) T.m_is_statement Z.FI.kp (bIst Z.FI) .nil pass0 (pa_cons (pv 5) pa_nil)
theorem okA1 (T : Txt K mg w) (Z : Asked P w K mg base dI dR dN) : LamX.LamJ.Ok (LwCx P w K mg base f (.ref c) A outer s H0 E pn) 5 (jA 1) (tP K 5 1) := by
  refine mk1 (by rfl) (show LamX.Lam1 "_law_of" (defScope sLaw) _ from LamX.lam1_by (by decide +kernel)) rfl (fun _ _ _ _ _ _ _ => ⟨_, rfl, fun u => rfl⟩) (fun A outer s H E f c' hr => ?_)
  exact pe_call Z.GR hr (by rfl) T.m_needs_read Z.FR.kp (bNre Z.FR) .nil (pass_c (takes_of rfl rfl rfl rfl)) (pa_cons (pv 5) pa_nil)
theorem okA2 (T : Txt K mg w) (Z : Asked P w K mg base dI dR dN) : LamX.LamJ.Ok (LwCx P w K mg base f (.ref c) A outer s H0 E pn) 5 (jA 2) (tP K 5 2) := by
  refine mk1 (by rfl) (show LamX.Lam1 "_law_by" (defScope sLaw) _ from LamX.lam1_by (by decide +kernel)) rfl (fun _ _ _ _ _ _ _ => ⟨_, rfl, fun u => rfl⟩) (fun A outer s H E f c' hr => ?_)
  exact pe_call Z.GN hr (by rfl) T.m_needs_input Z.FN.kp (bNin Z.FN) .nil (pass_c (takes_of rfl rfl rfl rfl)) (pa_cons (pv 5) pa_nil)
theorem okB0 (T : Txt K mg w) (Z : Asked P w K mg base dI dR dN) : LamX.LamJ.Ok (LwCx P w K mg base f (.ref c) A outer s H0 E pn) 5 (jB 0) (tN K 5 0) := by
  refine mk0 (by rfl) (show LamX.LamS (defScope sLaw) _ from LamX.lamS_by (by decide +kernel)) (fun _ _ _ _ _ => rfl) (fun A outer s H E f c' hr => ?_)
  exact pe_callN0 Z.GI (hr.mono (by decide)) (by rfl) T.m_is_statement Z.FI.kp (kIst Z.FI) pass0 (pk_cons (pv 5) pk_nil)
theorem okB1 (T : Txt K mg w) (Z : Asked P w K mg base dI dR dN) : LamX.LamJ.Ok (LwCx P w K mg base f (.ref c) A outer s H0 E pn) 5 (jB 1) (tN K 5 1) := by
  refine mk1 (by rfl) (show LamX.Lam1 "_law_of" (defScope sLaw) _ from LamX.lam1_by (by decide +kernel)) rfl (fun _ _ _ _ _ _ _ => ⟨_, rfl, fun u => rfl⟩) (fun A outer s H E f c' hr => ?_)
  exact pe_callN0 Z.GR hr (by rfl) T.m_needs_read Z.FR.kp (kNre Z.FR) (pass_c (takes_of rfl rfl rfl rfl)) (pk_cons (pv 5) pk_nil)
theorem okB2 (T : Txt K mg w) (Z : Asked P w K mg base dI dR dN) : LamX.LamJ.Ok (LwCx P w K mg base f (.ref c) A outer s H0 E pn) 5 (jB 2) (tN K 5 2) := by
  refine mk1 (by rfl) (show LamX.Lam1 "_law_by" (defScope sLaw) _ from LamX.lam1_by (by decide +kernel)) rfl (fun _ _ _ _ _ _ _ => ⟨_, rfl, fun u => rfl⟩) (fun A outer s H E f c' hr => ?_)
  exact pe_callN0 Z.GN hr (by rfl) T.m_needs_input Z.FN.kp (kNin Z.FN) (pass_c (takes_of rfl rfl rfl rfl)) (pk_cons (pv 5) pk_nil)
theorem okC0 (T : Txt K mg w) (Z : Asked P w K mg base dI dR dN) : LamX.LamJ.Ok (LwCx P w K mg base f (.ref c) A outer s H0 E pn) 5 (jC 0) (tP K 8 0) := by
  refine mk0 (by rfl) (show LamX.LamS (defScope sLaw) _ from LamX.lamS_by (by decide +kernel)) (fun _ _ _ _ _ => rfl) (fun A outer s H E f c' hr => ?_)
  exact pe_call Z.GI (hr.mono (by decide)) (by rfl) T.m_is_statement Z.FI.kp (bIst Z.FI) .nil pass0 (pa_cons (pv 8) pa_nil)
theorem okC1 (T : Txt K mg w) (Z : Asked P w K mg base dI dR dN) : LamX.LamJ.Ok (LwCx P w K mg base f (.ref c) A outer s H0 E pn) 5 (jC 1) (tP K 8 1) := by
  refine mk1 (by rfl) (show LamX.Lam1 "_law_of" (defScope sLaw) _ from LamX.lam1_by (by decide +kernel)) rfl (fun _ _ _ _ _ _ _ => ⟨_, rfl, fun u => rfl⟩) (fun A outer s H E f c' hr => ?_)
  exact pe_call Z.GR hr (by rfl) T.m_needs_read Z.FR.kp (bNre Z.FR) .nil (pass_c (takes_of rfl rfl rfl rfl)) (pa_cons (pv 8) pa_nil)
theorem okC2 (T : Txt K mg w) (Z : Asked P w K mg base dI dR dN) : LamX.LamJ.Ok (LwCx P w K mg base f (.ref c) A outer s H0 E pn) 5 (jC 2) (tP K 8 2) := by
  refine mk1 (by rfl) (show LamX.Lam1 "_law_by" (defScope sLaw) _ from LamX.lam1_by (by decide +kernel)) rfl (fun _ _ _ _ _ _ _ => ⟨_, rfl, fun u => rfl⟩) (fun A outer s H E f c' hr => ?_)
  exact pe_call Z.GN hr (by rfl) T.m_needs_input Z.FN.kp (bNin Z.FN) .nil (pass_c (takes_of rfl rfl rfl rfl)) (pa_cons (pv 8) pa_nil)
theorem okA (T : Txt K mg w) (Z : Asked P w K mg base dI dR dN) : ∀ j < 3, LamX.LamJ.Ok (LwCx P w K mg base f (.ref c) A outer s H0 E pn) 5 (jA j) (tP K 5 j)
  | 0, _ => okA0 T Z
  | 1, _ => okA1 T Z
  | 2, _ => okA2 T Z
theorem okB (T : Txt K mg w) (Z : Asked P w K mg base dI dR dN) : ∀ j < 3, LamX.LamJ.Ok (LwCx P w K mg base f (.ref c) A outer s H0 E pn) 5 (jB j) (tN K 5 j)
  | 0, _ => okB0 T Z
  | 1, _ => okB1 T Z
  | 2, _ => okB2 T Z
theorem okCC (T : Txt K mg w) (Z : Asked P w K mg base dI dR dN) : ∀ j < 3, LamX.LamJ.Ok (LwCx P w K mg base f (.ref c) A outer s H0 E pn) 5 (jC j) (tP K 8 j)
  | 0, _ => okC0 T Z
  | 1, _ => okC1 T Z
  | 2, _ => okC2 T Z
end
/-- in each the first has no default -/
theorem slA (σ : L2.St) : (jA 0).sl σ = σ ∧ (jA 1).sl σ = σ.set 10 (some (.int 0)) ∧ (jA 2).sl σ = σ.set 11 (some (.int 0)) := ⟨by rfl, by rfl, by rfl⟩
theorem slB (σ : L2.St) : (jB 0).sl σ = σ ∧ (jB 1).sl σ = σ.set 10 (some (.int 0)) ∧ (jB 2).sl σ = σ.set 11 (some (.int 0)) := ⟨by rfl, by rfl, by rfl⟩
theorem slC (σ : L2.St) : (jC 0).sl σ = σ ∧ (jC 1).sl σ = σ.set 10 (some (.int 0)) ∧ (jC 2).sl σ = σ.set 11 (some (.int 0)) := ⟨by rfl, by rfl, by rfl⟩
end K01

set_option maxRecDepth 100000
set_option maxHeartbeats 4000000
/-! [said(ask) for ask in asks], asks a list of kept lambdas, each told as a new tuple. -/
namespace LamX
open PySem PySem.Spec PyProof.Rows L2
theorem LamJ.At.same {X : Cx} {j : LamJ} {p c' : Addr} {G G' : Hp} (h : j.At X p c' G) (e : ∀ b o, G b = some o → (∀ ps, o ≠ .tbl ps) → (∀ xs, o ≠ .lst xs) → G' b = some o) : j.At X p c' G' := by
  obtain ⟨params, body, scope, dflt⟩ := j
  obtain ⟨h1, h2, h3⟩ := h
  refine ⟨h1, e _ _ h2 codeO_ne (fun xs z => ?_), ?_⟩
  · unfold CodeO at z
    cases z
  match dflt, h3 with
  | none, h3 => exact h3
  | some (_, _, z), ⟨Td, doc, pm, ctv, z1, z2⟩ => exact ⟨Td, doc, pm, ctv, z1, e _ _ z2 (fun _ w => by cases w) (fun _ w => by cases w)⟩
theorem asks {K : PySem.W.Frag} {X : Cx} {jX : Nat → LamJ} {tX : Nat → XK → TE} {TT : (XK → Hp → VK → Prop) → Hp → VK → Prop} {te0 : TE} {iv n : Nat} {σ : L2.St} {G : Hp} {l : Addr} {qs : List (Addr × Addr)} {W : Nat → List V} {Q : VK}
    (h0 : ∀ R : VK, R (.ref l) G → te0 σ G R) (hl : G l = some (.lst (qs.map fun q => V.ref q.1))) (hn : qs.length = n) (n1 : n < 1000) (at_ : ∀ j q, qs[j]? = some q → (jX j).At X q.1 q.2 G)
    (hw : ∀ x : V, wipe ((wipe σ [iv]).set iv (some x)) [iv] = wipe σ [iv]) (hv : ∀ x : V, ((wipe σ [iv]).set iv (some x))[iv]? = some (some x))
    (turn : ∀ j < n, ∀ (G' : Hp) (Q' : VK), Same G G' → (∀ (H' : Hp) (t : Addr), Same G' H' → H' t = some (.tup (W j)) → Q' (.ref t) H') → TT (fun E' H' Q' => tX j E' ((jX j).sl σ) H' Q') G' Q')
    (k : ∀ (D : Addr) (ts : List Addr) (G' : Hp), Same G G' → G' D = some (.lst (ts.map V.ref)) → ts.length = n → (∀ (j : Nat) (t : Addr), ts[j]? = some t → G' t = some (.tup (W j))) → Q (.ref D) G') :
    tLc (iList K te0) (gName iv) tYes (tPinH X jX n tX TT (tVar iv) σ) [iv] σ G Q := by
  have big : 1000 < sizeLine := by decide
  refine h0 _ ⟨l, rfl, ⟨_, SqL.of hl⟩, fun D nD => ?_⟩
  refine lc_list (K := K) (xs := qs.map fun q => V.ref q.1) (fun i G2 => Same G G2 ∧ ∃ ts : List Addr, G2 D = some (.lst (ts.map V.ref)) ∧ ts.length = i ∧ ∀ (j : Nat) (t : Addr), ts[j]? = some t → G2 t = some (.tup (W j)))
    ⟨Same.new nD, [], upd_same, rfl, fun j t h => by simp at h⟩ (fun i G2 _ g => SqL.of (g.1 _ _ hl)) (fun i x G2 hx g => ?_) (fun G2 g => ?_)
  · obtain ⟨sG, ts, hD, lt, ht⟩ := g
    rw [List.getElem?_map] at hx
    obtain ⟨q, hq, rfl⟩ := Option.map_eq_some_iff.mp hx
    have li := (List.getElem?_eq_some_iff.mp hq).1
    refine ⟨hw _, ?_⟩
    refine ⟨_, hv _, i, q.1, q.2, by omega, rfl, (at_ i q hq).same (fun b o e _ _ => sG _ _ e), turn i (by omega) G2 _ sG fun G1 r S e => ?_⟩
    have hD1 := S _ _ hD
    refine ⟨_, hD1, by rw [List.length_map]; omega, ?_, ts ++ [r], ?_, by rw [List.length_append, lt]; rfl, fun j t hj => ?_⟩
    · exact fun b o e => by
        rw [upd_ne (ne_of_none e nD)]
        exact (sG.trans S) b o e
    · rw [upd_same, List.map_append]
      rfl
    · have off : ∀ {t u}, G1 t = some (.tup u) → upd G1 D (.lst (ts.map V.ref ++ [.ref r])) t = some (.tup u) := fun h => (upd_ne (fun z => by rw [z, hD1] at h; cases h)).trans h
      by_cases lj : j < ts.length
      · rw [List.getElem?_append_left lj] at hj
        exact off (S _ _ (ht j t hj))
      · have ej : j = ts.length := by
          have := (List.getElem?_eq_some_iff.mp hj).1
          rw [List.length_append, List.length_singleton] at this
          omega
        rw [ej, List.getElem?_append_right (Nat.le_refl _), Nat.sub_self] at hj
        cases hj
        rw [ej, lt]
        exact off e
  · obtain ⟨sG, ts, hD, lt, ht⟩ := g
    rw [List.length_map] at lt
    exact k D ts G2 sG hD (by omega) ht
end LamX

set_option maxRecDepth 100000
set_option maxHeartbeats 4000000
namespace K01
open PySem PySem.Spec PyProof.Rows L2 He VH RZ
/-! what stands within a turn; what is told of a statement, and of what is none -/
structure Ml (K : PySem.W.Frag) (Tt : List (Addr × Str)) (sc p e : Addr) (ns : List Int) (ys : List V) (G : Hp) : Prop where
  sq : SqL K G sc (ns.map V.int)
  dp : sc ≠ p ∨ ∀ G, SqL K G sc (ns.map V.int)
  wl : Well G p
  tb : LamX.Tabs Tt G
  ep : e ≠ p
  he : G e = some (.lst ys)
  ge : GL G ys allL
theorem sql_bx {K : PySem.W.Frag} {sc p : Addr} {H H' : Hp} {xs : List V} (h : SqL K H sc xs) (d : sc ≠ p ∨ ∀ G, SqL K G sc xs) (b : Bx p H H') : SqL K H' sc xs := by
  rcases d with d | d
  · rcases h with (h | ⟨o, h⟩) | h
    · exact .inl (.inl (b _ _ d h (fun _ z => by cases z)))
    · exact .inl (.inr ⟨o, b _ _ d h (fun _ z => by cases z)⟩)
    · exact .inr h
  · exact d _
theorem GL.len162 {H : Hp} {ys : List V} (h : GL H ys allL) : ys.length = 162 := by rw [h.len, allL_len]
def bV (s : Stp) : Nat → Bool
  | 0 => true
  | 1 => hasW s rdW
  | _ => hasW s tkW
/-- what is due of a statement -/
def Due (s : Stp) (dl : Addr) (G : Hp) : Prop := ∃ d0 d1 d2 : Addr, G dl = some (.lst [.ref d0, .ref d1, .ref d2]) ∧ G d0 = some (.tup [.str "told", .bl (bV s 0)]) ∧ G d1 = some (.tup [.str "told", .bl (bV s 1)]) ∧ G d2 = some (.tup [.str "told", .bl (bV s 2)])
section
variable {K : PySem.W.Frag} {Tt : List (Addr × Str)} {sc p e l dl : Addr} {ns : List Int} {ys us : List V} {G G' : Hp} {o : HO} {s : Stp}
theorem Ml.bxa (M : Ml K Tt sc p e ns ys G) (b : Bx p G G') (w : Well G' p) (t : LamX.Tabs Tt G') : Ml K Tt sc p e ns ys G' :=
  ⟨sql_bx M.sq M.dp b, M.dp, w, t, M.ep, b.lst M.ep M.he, M.ge.tup (fun _ _ z => b.tup M.wl z)⟩
theorem Ml.but (M : Ml K Tt sc p e ns ys G) (b : But p G G') (w : Well G' p) : Ml K Tt sc p e ns ys G' := by
  obtain ⟨zs, hz⟩ := M.wl.lst
  exact M.bxa (Bx.but b) w (tabs_off M.tb hz b)
theorem Ml.same (M : Ml K Tt sc p e ns ys G) (s : Same G G') : Ml K Tt sc p e ns ys G' := M.bxa (Bx.same s) (M.wl.same s) (M.tb.ext s)
theorem Ml.ext (M : Ml K Tt sc p e ns ys G) (s : LamX.ExtN G G') (t : LamX.Tabs Tt G') : Ml K Tt sc p e ns ys G' := M.bxa (Bx.ext s) (M.wl.ext s) t
/-- a list of two lambdas changes -/
theorem Ml.off (M : Ml K Tt sc p e ns ys G) (hl : G l = some (.lst us)) (l2 : us.length = 2) (r : ∃ q, us[0]? = some (.ref q)) : Ml K Tt sc p e ns ys (upd G l o) := by
  obtain ⟨q, hq⟩ := r
  have b : But l G (upd G l o) := But.upd
  have lp : l ≠ p := fun z => by
    obtain ⟨c1, c2, c3, w⟩ := M.wl
    rw [← z, hl] at w
    cases w
    cases hq
  have tup : ∀ c us, G c = some (.tup us) → upd G l o c = some (.tup us) := fun c us h => (upd_ne (fun z => by rw [z, hl] at h; cases h)).trans h
  have le : e ≠ l := fun z => by
    have h1 := M.he
    rw [z, hl] at h1
    cases h1
    have := M.ge.len162
    omega
  have sd : sc ≠ l ∨ ∀ G, SqL K G sc (ns.map V.int) := by
    rcases M.sq with (h | ⟨o, h⟩) | h
    · refine .inl fun z => ?_
      rw [z, hl] at h
      cases h
      rw [List.getElem?_map] at hq
      obtain ⟨i, _, hi⟩ := Option.map_eq_some_iff.mp hq
      cases hi
    · exact .inl fun z => by rw [z, hl] at h; cases h
    · exact .inr fun _ => .inr h
  refine ⟨sql_bx M.sq sd (Bx.but b), M.dp, ?_, tabs_off M.tb hl b, M.ep, (upd_ne le).trans M.he, M.ge.tup tup⟩
  obtain ⟨c1, c2, c3, w⟩ := M.wl
  exact ⟨c1, c2, c3, (upd_ne (Ne.symm lp)).trans w⟩
theorem Due.bx (h : Due s dl G) (w : Well G p) (n : dl ≠ p) (b : Bx p G G') : Due s dl G' := by
  obtain ⟨d0, d1, d2, h, h0, h1, h2⟩ := h
  exact ⟨d0, d1, d2, b.lst n h, b.tup w h0, b.tup w h1, b.tup w h2⟩
theorem Due.same (h : Due s dl G) (b : Same G G') : Due s dl G' := by
  obtain ⟨d0, d1, d2, h, h0, h1, h2⟩ := h
  exact ⟨d0, d1, d2, b _ _ h, b _ _ h0, b _ _ h1, b _ _ h2⟩
theorem Due.off (h : Due s dl G) (hl : G l = some (.lst us)) (l2 : us.length = 2) : Due s dl (upd G l o) := by
  obtain ⟨d0, d1, d2, h, h0, h1, h2⟩ := h
  have off : ∀ {q u}, G q = some u → u ≠ .lst us → upd G l o q = some u := fun h n => (upd_ne (fun z => by rw [z, hl] at h; exact n (Option.some.inj h).symm)).trans h
  exact ⟨d0, d1, d2, off h (fun z => by cases z; cases l2), off h0 (fun z => by cases z), off h1 (fun z => by cases z), off h2 (fun z => by cases z)⟩
end
theorem toldD {K : PySem.W.Frag} {H : Hp} {t : Addr} {u : Str} {b : Bool} (h : H t = some (.tup [.str u, .bl b])) : Dp K H (.ref t) (.tuple [.str u, .bool b]) := .tup (SqT.of h) (.cons (.str _) (.cons (.bl _) .nil))
def wantD (u v : Str) (a b c : Bool) : PyData := .list [.tuple [.str u, .bool a], .tuple [.str v, .bool b], .tuple [.str v, .bool c]]
theorem want_told : ∀ a b c : Bool, SeqAt.shaped (wantD "told" "told" a b c) = true ∧ PyData.eqv (wantD "told" "told" a b c) (wantD "told" "told" a b c) = true := by decide +kernel
theorem want_none : SeqAt.shaped (wantD "told" "none" false true true) = true ∧ PyData.eqv (wantD "told" "none" false true true) (wantD "told" "none" false true true) = true := by decide +kernel
theorem Due.dp {K : PySem.W.Frag} {s : Stp} {dl : Addr} {G : Hp} (h : Due s dl G) : Dp K G (.ref dl) (wantD "told" "told" (bV s 0) (bV s 1) (bV s 2)) := by
  obtain ⟨d0, d1, d2, h, h0, h1, h2⟩ := h
  exact .lst (SqL.of h) (.cons (toldD h0) (.cons (toldD h1) (.cons (toldD h2) .nil)))
/-- three that were told -/
theorem dp3 {K : PySem.W.Frag} {G : Hp} {D : Addr} {ts : List Addr} {u v : Str} {b : Nat → Bool} (hD : G D = some (.lst (ts.map V.ref))) (l : ts.length = 3) (h : ∀ (j : Nat) (t : Addr), ts[j]? = some t → G t = some (.tup [.str (if j = 0 then u else v), .bl (b j)])) :
    Dp K G (.ref D) (wantD u v (b 0) (b 1) (b 2)) := by
  match ts, l with
  | [t0, t1, t2], _ => exact .lst (SqL.of hD) (.cons (toldD (h 0 t0 rfl)) (.cons (toldD (h 1 t1 rfl)) (.cons (toldD (h 2 t2 rfl)) .nil)))
section
variable {K : PySem.W.Frag} {mg : Str → Option Value} {w : World} {σ : L2.St} {v : Nat} {p : Addr} {s : Stp} {x : V} {t : Tr} {G : Hp} {Q : VK}
/-- a statement is told, by place -/
theorem tellP (hs : σ[v]? = some (some (.ref p))) (at_ : StAt G p s) (ok : s.ok = true) (j : Nat) (hj : j < 3) (k : ∀ (H' : Hp) (t : Addr), Same G H' → H' t = some (.tup [.str "told", .bl (bV s j)]) → Q (.ref t) H') :
    LamX.TTmix K 2 (clauses K) "told" (fun E' H' Q' => tP K v j E' σ H' Q') G Q := by
  match j, hj with
  | 0, _ => exact ⟨_, hs, _, true, rfl, at_.is ok, fun H' S => ⟨(show 2 ≤ sizeLine by decide), fun q nq => k _ q (S.trans (Same.new nq)) upd_same⟩⟩
  | 1, _ => exact ⟨_, hs, _, rfl, .inr ⟨p, s, rfl, at_, ok, fun H' S => ⟨(show 2 ≤ sizeLine by decide), fun q nq => k _ q (S.trans (Same.new nq)) upd_same⟩⟩⟩
  | 2, _ => exact ⟨_, hs, _, rfl, .inr ⟨p, s, rfl, at_, ok, fun H' S => ⟨(show 2 ≤ sizeLine by decide), fun q nq => k _ q (S.trans (Same.new nq)) upd_same⟩⟩⟩
theorem tellN (hs : σ[v]? = some (some (.ref p))) (at_ : StAt G p s) (ok : s.ok = true) (j : Nat) (hj : j < 3) (k : ∀ (H' : Hp) (t : Addr), Same G H' → H' t = some (.tup [.str "told", .bl (bV s j)]) → Q (.ref t) H') :
    LamX.TTmix K 2 (clauses K) "told" (fun E' H' Q' => tN K v j E' σ H' Q') G Q := by
  match j, hj with
  | 0, _ => exact ⟨_, hs, rfl, _, true, rfl, at_.is ok, fun H' S => ⟨(show 2 ≤ sizeLine by decide), fun q nq => k _ q (S.trans (Same.new nq)) upd_same⟩⟩
  | 1, _ => exact ⟨_, hs, rfl, _, rfl, .inr ⟨p, s, rfl, at_, ok, fun H' S => ⟨(show 2 ≤ sizeLine by decide), fun q nq => k _ q (S.trans (Same.new nq)) upd_same⟩⟩⟩
  | 2, _ => exact ⟨_, hs, rfl, _, rfl, .inr ⟨p, s, rfl, at_, ok, fun H' S => ⟨(show 2 ≤ sizeLine by decide), fun q nq => k _ q (S.trans (Same.new nq)) upd_same⟩⟩⟩
/-- what is none -/
theorem tellO (T : Txt K mg w) (kt : Kit K) (hs : σ[v]? = some (some x)) (at_ : At K G x t) (f : t.fine = true) (no : isSt t = false) (j : Nat) (hj : j < 3) (k : ∀ (H' : Hp) (q : Addr), Same G H' → H' q = some (.tup [.str (if j = 0 then "told" else "none"), .bl (decide (j ≠ 0))]) → Q (.ref q) H') :
    LamX.TTmix K 2 (clauses K) "told" (fun E' H' Q' => tP K v j E' σ H' Q') G Q := by
  match j, hj with
  | 0, _ => exact ⟨_, hs, _, false, rfl, ⟨t, at_, f, no⟩, fun H' S => ⟨(show 2 ≤ sizeLine by decide), fun q nq => k _ q (S.trans (Same.new nq)) upd_same⟩⟩
  | 1, _ => exact ⟨_, hs, _, rfl, .inl ⟨⟨t, at_, f, no⟩, told_no T kt fun H' q S e => k H' q S e⟩⟩
  | 2, _ => exact ⟨_, hs, _, rfl, .inl ⟨⟨t, at_, f, no⟩, told_no T kt fun H' q S e => k H' q S e⟩⟩
end
end K01

set_option maxRecDepth 100000
set_option maxHeartbeats 4000000
namespace K01
open PySem PySem.Spec PyProof.Rows L2 He VH RZ
/-! the turn's parts -/
theorem kept3 {X : Cx} {M : List (Addr × Obj)} {H : Hp} {fs : List (Addr × Addr)} {a b c : LamX.LamJ} (h : LamX.Kept X M H fs [a, b, c]) : ∃ q0 q1 q2, fs = [q0, q1, q2] ∧ a.In X M q0.1 q0.2 H ∧ b.In X M q1.1 q1.2 H ∧ c.In X M q2.1 q2.2 H := by
  match fs, h with
  | [q0, q1, q2], .cons k0 (.cons k1 (.cons k2 .nil)) => exact ⟨q0, q1, q2, rfl, k0, k1, k2⟩
theorem kept2 {X : Cx} {M : List (Addr × Obj)} {H : Hp} {fs : List (Addr × Addr)} {a b : LamX.LamJ} (h : LamX.Kept X M H fs [a, b]) : ∃ q0 q1, fs = [q0, q1] ∧ a.In X M q0.1 q0.2 H ∧ b.In X M q1.1 q1.2 H := by
  match fs, h with
  | [q0, q1], .cons k0 (.cons k1 .nil) => exact ⟨q0, q1, rfl, k0, k1⟩
abbrev nmL : Str := ("law" ++ ".<locals>.") ++ "<lambda>"
section
variable {P : Program} {w : World} {K : PySem.W.Frag} {mg : Str → Option Value} {base : Heap} {f c Pt : Addr} {A : Around} {outer : List Env} {s : Shared} {H0 : Hp} {E : XK} {dI dR dN : FuncData}
theorem segA (T : Txt K mg w) (fns : Fns K) (Z : Asked P w K mg base dI dR dN) {Tt : List (Addr × Str)} (TB : LamX.TabB base mg c Pt) (hm : ((Pt, nmL) : Addr × Str) ∈ Tt) (hu' : ∀ p ∈ Tt, p.1 = Pt → p.2 = nmL) (hr : Room 7 (A.deeper (envOfC "law" (defScope sLaw) s.heap.objs.size f (.ref c))))
    {u : List (Addr × Obj) → TS} (hu : ∀ pn, PSs (LwCx P w K mg base f (.ref c) A outer s H0 E pn) (turnB.drop 4) (u pn)) :
    ∃ t : List (Addr × Obj) → TS, (∀ pn, PSs (LwCx P w K mg base f (.ref c) A outer s H0 E pn) (turnB.drop 2) (t pn)) ∧ ∀ (pn : List (Addr × Obj)) (En : Ends) (sc p e ps dl : Addr) (st : Stp) (ns : List Int) (ys : List V) (v2 v4 v7 v8 v9 v10 v11 : Option V) (G : Hp), Ml K Tt sc p e ns ys G → StAt G ps st → st.ok = true → dl ≠ p → Due st dl G →
      (∀ (pn : List (Addr × Obj)) (v7 : Option V) (G : Hp), Ml K Tt sc p e ns ys G → StAt G ps st → Due st dl G → u pn En [some (.ref sc), some (.ref e), v2, some (.ref p), v4, some (.ref ps), some (.ref dl), v7, v8, v9, v10, v11] G) →
      t pn En [some (.ref sc), some (.ref e), v2, some (.ref p), v4, some (.ref ps), some (.ref dl), v7, v8, v9, v10, v11] G := by
  obtain ⟨fdY, FY⟩ := fns.f_l_said
  have FYk := FY.kp
  have b0 := bSaid FY
  have u64 : (A.deeper (envOfC "law" (defScope sLaw) s.heap.objs.size f (.ref c))).units + 64 < cLine := hr.units
  obtain ⟨oc, od, dV, kV, doc, pm, an, cdv, ct, osl, rfl, lk, hcd, _, _⟩ := FY.ex
  refine ⟨fun pn => _, fun pn => LamX.pss_lams (X := LwCx P w K mg base f (.ref c) A outer s H0 E pn) (T := Tt) (i := 7) (js := [jA 0, jA 1, jA 2])
      (.cons (le0 (by rfl) (by rfl) (by rfl) (okA0 T Z)) (.cons (le1 (by rfl) (by rfl) (by rfl) (by rfl) (okA1 T Z)) (.cons (le1 (by rfl) (by rfl) (by rfl) (by rfl) (okA2 T Z)) .nil)))
      TB rfl hm hu' scLaw.nd rfl (Or.inl rfl) (by decide) (fun pn1 =>
        pss_cons (ps_if (pt_cmpR (op_neD u64) (LamX.pe_lcH (X := LwCx P w K mg base f (.ref c) A outer s H0 E pn1) (own := [("_law_ask", 9)])
              (te := fun σ => LamX.tPinH (LwCx P w K mg base f (.ref c) A outer s H0 E pn1) jA 3 (tP K 5) (LamX.TTmix K 2 (clauses K) "told") (tVar 9) σ) rfl scLaw.nd (pi_list (pv 7)) (blkOk_by (N := nLaw) (sc := defScope sLaw) (by decide +kernel))
              (fun _ _ _ _ _ => pg_name (i := 9) scLaw.nd rfl (Or.inl rfl))
              (fun s' H' C cl fp pins σ home => LamX.pe_pinH home scLaw.nd (by rfl) T.m_l_said FYk lk hcd b0 scSaid rfl (Or.inl rfl) (gives T) hr (pv 9) (okA (pn := pn1) T Z)))
            (pv 6) (nomark _)) (pss_one (ps_ret pe_bl)) pss_nil) (hu pn1)), fun pn En sc p e ps dl st ns ys v2 v4 v7 v8 v9 v10 v11 G M at_ ok dlp due k => ?_⟩
  refine ⟨M.tb, fun pn1 fs H2 sub1 ex1 t1 hk l nl => ?_⟩
  obtain ⟨q0, q1, q2, rfl, i0, i1, i2⟩ := kept3 hk
  have S1 := Same.new (o := .lst ([q0, q1, q2].map fun p => V.ref p.1)) nl
  have M8 := (M.ext ex1 t1).same S1
  have B := (Bx.ext (a := p) ex1).trans (Bx.same S1)
  have at8 := at_.same fun _ _ z => B.tup M.wl z
  have due8 := due.bx M.wl dlp B
  have hl8 := upd_same (H := H2) (a := l) (o := .lst ([q0, q1, q2].map fun p => V.ref p.1))
  have fx8 : LamX.ExtN H2 (upd H2 l (.lst ([q0, q1, q2].map fun p => V.ref p.1))) := LamX.ExtN.of fun b' o' e => S1 b' o' e
  have k0 := i0.mono (fun q h => h) fx8
  have k1 := i1.mono (fun q h => h) fx8
  have k2 := i2.mono (fun q h => h) fx8
  clear hk S1 nl M at_ due B
  dsimp only [tSeq, tIfS, tTest, tOp]
  refine LamX.asks (n := 3) (iv := 9) (qs := [q0, q1, q2]) (W := fun j => [.str "told", .bl (bV st j)]) (fun R r => ⟨_, rfl, r⟩) hl8 rfl (by decide) (fun j q hq => ?_) (fun _ => rfl) (fun _ => rfl) (fun j hj G' Q' S k => ?_) (fun D ts G' S hD lt ht => ?_)
  · match j, hq with
    | 0, hq => cases hq; exact k0
    | 1, hq => cases hq; exact k1
    | 2, hq => cases hq; exact k2
  · have at9 := at8.same fun _ _ z => S _ _ z
    match j, hj with
    | 0, hj => rw [(slA _).1]; exact tellP rfl at9 ok 0 hj k
    | 1, hj => rw [(slA _).2.1]; exact tellP rfl at9 ok 1 hj k
    | 2, hj => rw [(slA _).2.2]; exact tellP rfl at9 ok 2 hj k
  · have due9 := due8.same S
    have wt := want_told (bV st 0) (bV st 1) (bV st 2)
    refine ⟨_, rfl, _, _, dp3 (u := "told") (v := "told") (b := bV st) hD lt (fun j t h => by rw [ite_self]; exact ht j t h), due9.dp, wt.1, wt.1, _, rfl, ?_⟩
    rw [wt.2]
    exact iteF (k pn1 _ G' (M8.same S) (at8.same fun _ _ z => S _ _ z) due9)
theorem segB (T : Txt K mg w) (fns : Fns K) (Z : Asked P w K mg base dI dR dN) {Tt : List (Addr × Str)} (TB : LamX.TabB base mg c Pt) (hm : ((Pt, nmL) : Addr × Str) ∈ Tt) (hu' : ∀ p ∈ Tt, p.1 = Pt → p.2 = nmL) (hr : Room 7 (A.deeper (envOfC "law" (defScope sLaw) s.heap.objs.size f (.ref c))))
    {u : List (Addr × Obj) → TS} (hu : ∀ pn, PSs (LwCx P w K mg base f (.ref c) A outer s H0 E pn) (turnB.drop 7) (u pn)) :
    ∃ t : List (Addr × Obj) → TS, (∀ pn, PSs (LwCx P w K mg base f (.ref c) A outer s H0 E pn) (turnB.drop 4) (t pn)) ∧ ∀ (pn : List (Addr × Obj)) (En : Ends) (sc p e ps dl : Addr) (st : Stp) (ns : List Int) (ys : List V) (v2 v4 v7 v8 v9 v10 v11 : Option V) (G : Hp), Ml K Tt sc p e ns ys G → StAt G ps st → st.ok = true → dl ≠ p → Due st dl G →
      (∀ (pn : List (Addr × Obj)) (v7 : Option V) (G : Hp), Ml K Tt sc p e ns ys G → StAt G ps st → u pn En [some (.ref sc), some (.ref e), v2, some (.ref p), v4, some (.ref ps), some (.ref dl), v7, v8, v9, v10, v11] G) →
      t pn En [some (.ref sc), some (.ref e), v2, some (.ref p), v4, some (.ref ps), some (.ref dl), v7, v8, v9, v10, v11] G := by
  obtain ⟨fdY, FY⟩ := fns.f_l_said
  have FYk := FY.kp
  have b0 := bSaid FY
  have u64 : (A.deeper (envOfC "law" (defScope sLaw) s.heap.objs.size f (.ref c))).units + 64 < cLine := hr.units
  obtain ⟨oc, od, dV, kV, doc, pm, an, cdv, ct, osl, rfl, lk, hcd, _, _⟩ := FY.ex
  refine ⟨fun pn => _, fun pn => LamX.pss_lams (X := LwCx P w K mg base f (.ref c) A outer s H0 E pn) (T := Tt) (i := 7) (js := [jB 0, jB 1])
      (.cons (le0 (by rfl) (by rfl) (by rfl) (okB0 T Z)) (.cons (le1 (by rfl) (by rfl) (by rfl) (by rfl) (okB1 T Z)) .nil))
      TB rfl hm hu' scLaw.nd rfl (Or.inl rfl) (by decide) (fun pn1 =>
        LamX.pss_lamApp (X := LwCx P w K mg base f (.ref c) A outer s H0 E pn1) (T := Tt) (j := jB 2) (i := 7) (le1 (by rfl) (by rfl) (by rfl) (by rfl) (okB2 T Z)) TB rfl hm hu' rfl (.inl rfl) (fun pn2 =>
        pss_cons (ps_if (pt_cmpR (op_neD u64) (LamX.pe_lcH (X := LwCx P w K mg base f (.ref c) A outer s H0 E pn2) (own := [("_law_ask", 9)])
              (te := fun σ => LamX.tPinH (LwCx P w K mg base f (.ref c) A outer s H0 E pn2) jB 3 (tN K 5) (LamX.TTmix K 2 (clauses K) "told") (tVar 9) σ) rfl scLaw.nd (pi_list (pv 7)) (blkOk_by (N := nLaw) (sc := defScope sLaw) (by decide +kernel))
              (fun _ _ _ _ _ => pg_name (i := 9) scLaw.nd rfl (Or.inl rfl))
              (fun s' H' C cl fp pins σ home => LamX.pe_pinH home scLaw.nd (by rfl) T.m_l_said FYk lk hcd b0 scSaid rfl (Or.inl rfl) (gives T) hr (pv 9) (okB (pn := pn2) T Z)))
            (pv 6) (nomark _)) (pss_one (ps_ret pe_bl)) pss_nil) (hu pn2))), fun pn En sc p e ps dl st ns ys v2 v4 v7 v8 v9 v10 v11 G M at_ ok dlp due k => ?_⟩
  refine ⟨M.tb, fun pn1 fs H2 sub1 ex1 t1 hk l nl => ?_⟩
  obtain ⟨q0, q1, rfl, i0, i1⟩ := kept2 hk
  have S1 := Same.new (o := .lst ([q0, q1].map fun p => V.ref p.1)) nl
  have M8 := (M.ext ex1 t1).same S1
  have B := (Bx.ext (a := p) ex1).trans (Bx.same S1)
  have at8 := at_.same fun _ _ z => B.tup M.wl z
  have due8 := due.bx M.wl dlp B
  have hl8 := upd_same (H := H2) (a := l) (o := .lst ([q0, q1].map fun p => V.ref p.1))
  have fx8 : LamX.ExtN H2 (upd H2 l (.lst ([q0, q1].map fun p => V.ref p.1))) := LamX.ExtN.of fun b' o' e => S1 b' o' e
  refine ⟨l, _, rfl, hl8, ?_, M8.tb, fun pn2 f3 c3 H3 sub2 ex2 t2 in3 => ?_⟩
  · exact Nat.lt_of_lt_of_le (show 2 < 3 by decide) (show 3 ≤ sizeLine by decide)
  have M9 := M8.ext ex2 t2
  have at9 := at8.same fun _ _ z => (Bx.ext (a := p) ex2).tup M8.wl z
  have due9 := due8.bx M8.wl dlp (Bx.ext ex2)
  have k0 := (i0.mono (fun q h => h) fx8).mono sub2 ex2
  have k1 := (i1.mono (fun q h => h) fx8).mono sub2 ex2
  have hl9 := ex2 _ _ hl8 (fun _ z => by cases z)
  clear hk M8 M S1 hl8 nl B at8 at_ due8 due
  have hl9 : H3 l = some (.lst [.ref q0.1, .ref q1.1]) := hl9
  have M10 := M9.off (o := .lst (List.map (fun p => V.ref p.1) [q0, q1] ++ [V.ref f3])) hl9 rfl ⟨_, rfl⟩
  have due10 := due9.off (o := .lst (List.map (fun p => V.ref p.1) [q0, q1] ++ [V.ref f3])) hl9 rfl
  have fx : ∀ q v, H3 q = some v → (∀ ps, v ≠ .tbl ps) → (∀ xs, v ≠ .lst xs) → upd H3 l (.lst (List.map (fun p => V.ref p.1) [q0, q1] ++ [V.ref f3])) q = some v := fun q v e _ n => (upd_ne (fun z => by rw [z, hl9] at e; exact n _ (Option.some.inj e).symm)).trans e
  have at10 := at9.same fun b u z => fx b _ z (fun _ z => by cases z) (fun _ z => by cases z)
  have A0 : (jB 0).At (LwCx P w K mg base f (.ref c) A outer s H0 E pn2) q0.1 q0.2 _ := LamX.LamJ.At.same (X := LwCx P w K mg base f (.ref c) A outer s H0 E pn2) k0 fx
  have A1 : (jB 1).At (LwCx P w K mg base f (.ref c) A outer s H0 E pn2) q1.1 q1.2 _ := LamX.LamJ.At.same (X := LwCx P w K mg base f (.ref c) A outer s H0 E pn2) k1 fx
  have A2 : (jB 2).At (LwCx P w K mg base f (.ref c) A outer s H0 E pn2) f3 c3 _ := LamX.LamJ.At.same (X := LwCx P w K mg base f (.ref c) A outer s H0 E pn2) in3 fx
  have hl10 : upd H3 l (.lst (List.map (fun p => V.ref p.1) [q0, q1] ++ [V.ref f3])) l = some (.lst (([q0, q1, (f3, c3)] : List (Addr × Addr)).map fun q => V.ref q.1)) := upd_same
  clear fx hl9 k0 k1 in3 ex2 M9 at9 due9
  generalize upd H3 l (.lst (List.map (fun p => V.ref p.1) [q0, q1] ++ [V.ref f3])) = H4 at *
  dsimp only [tSeq, tIfS, tTest, tOp]
  refine LamX.asks (n := 3) (iv := 9) (qs := [q0, q1, (f3, c3)]) (W := fun j => [.str "told", .bl (bV st j)]) (fun R r => ⟨_, rfl, r⟩) hl10 rfl (by decide) (fun j q hq => ?_) (fun _ => rfl) (fun _ => rfl) (fun j hj G' Q' S k => ?_) (fun D ts G' S hD lt ht => ?_)
  · match j, hq with
    | 0, hq => cases hq; exact A0
    | 1, hq => cases hq; exact A1
    | 2, hq => cases hq; exact A2
  · have at9 := at10.same fun _ _ z => S _ _ z
    match j, hj with
    | 0, hj => rw [(slB _).1]; exact tellN rfl at9 ok 0 hj k
    | 1, hj => rw [(slB _).2.1]; exact tellN rfl at9 ok 1 hj k
    | 2, hj => rw [(slB _).2.2]; exact tellN rfl at9 ok 2 hj k
  · have due9 := due10.same S
    have wt := want_told (bV st 0) (bV st 1) (bV st 2)
    refine ⟨_, rfl, _, _, dp3 (u := "told") (v := "told") (b := bV st) hD lt (fun j t h => by rw [ite_self]; exact ht j t h), due9.dp, wt.1, wt.1, _, rfl, ?_⟩
    rw [wt.2]
    exact iteF (k pn2 _ G' (M10.same S) (at10.same fun _ _ z => S _ _ z))
theorem segC (T : Txt K mg w) (kt : Kit K) (fns : Fns K) (Z : Asked P w K mg base dI dR dN) {Tt : List (Addr × Str)} (TB : LamX.TabB base mg c Pt) (hm : ((Pt, nmL) : Addr × Str) ∈ Tt) (hu' : ∀ p ∈ Tt, p.1 = Pt → p.2 = nmL) (hr : Room 7 (A.deeper (envOfC "law" (defScope sLaw) s.heap.objs.size f (.ref c)))) :
    ∃ t : List (Addr × Obj) → TS, (∀ pn, PSs (LwCx P w K mg base f (.ref c) A outer s H0 E pn) (turnB.drop 9) (t pn)) ∧ ∀ (pn : List (Addr × Obj)) (En : Ends) (sc p e : Addr) (x : V) (tr : Tr) (ns : List Int) (ys : List V) (v2 v4 v5 v6 v7 v9 v10 v11 : Option V) (G : Hp), Ml K Tt sc p e ns ys G → tr.fine = true → (∀ G', Bx p G G' → At K G' x tr) → isSt tr = false →
      (∀ (v7 : Option V) (G : Hp), Ml K Tt sc p e ns ys G → En.nx [some (.ref sc), some (.ref e), v2, some (.ref p), v4, v5, v6, v7, some x, v9, v10, v11] G) →
      t pn En [some (.ref sc), some (.ref e), v2, some (.ref p), v4, v5, v6, v7, some x, v9, v10, v11] G := by
  obtain ⟨fdY, FY⟩ := fns.f_l_said
  have FYk := FY.kp
  have b0 := bSaid FY
  have u64 : (A.deeper (envOfC "law" (defScope sLaw) s.heap.objs.size f (.ref c))).units + 64 < cLine := hr.units
  obtain ⟨oc, od, dV, kV, doc, pm, an, cdv, ct, osl, rfl, lk, hcd, _, _⟩ := FY.ex
  refine ⟨fun pn => _, fun pn => LamX.pss_lams (X := LwCx P w K mg base f (.ref c) A outer s H0 E pn) (T := Tt) (i := 7) (js := [jC 0, jC 1, jC 2])
      (.cons (le0 (by rfl) (by rfl) (by rfl) (okC0 T Z)) (.cons (le1 (by rfl) (by rfl) (by rfl) (by rfl) (okC1 T Z)) (.cons (le1 (by rfl) (by rfl) (by rfl) (by rfl) (okC2 T Z)) .nil)))
      TB rfl hm hu' scLaw.nd rfl (Or.inl rfl) (by decide) (fun pn1 =>
        pss_one (ps_if (pt_cmpR (op_neD u64) (LamX.pe_lcH (X := LwCx P w K mg base f (.ref c) A outer s H0 E pn1) (own := [("_law_ask", 9)])
              (te := fun σ => LamX.tPinH (LwCx P w K mg base f (.ref c) A outer s H0 E pn1) jC 3 (tP K 8) (LamX.TTmix K 2 (clauses K) "told") (tVar 9) σ) rfl scLaw.nd (pi_list (pv 7)) (blkOk_by (N := nLaw) (sc := defScope sLaw) (by decide +kernel))
              (fun _ _ _ _ _ => pg_name (i := 9) scLaw.nd rfl (Or.inl rfl))
              (fun s' H' C cl fp pins σ home => LamX.pe_pinH home scLaw.nd (by rfl) T.m_l_said FYk lk hcd b0 scSaid rfl (Or.inl rfl) (gives T) hr (pv 9) (okCC (pn := pn1) T Z)))
            (pe_lst (pa_cons (pe_tup (pa_cons pe_str (pa_cons pe_bl pa_nil))) (pa_cons (pe_tup (pa_cons pe_str (pa_cons pe_bl pa_nil))) (pa_cons (pe_tup (pa_cons pe_str (pa_cons pe_bl pa_nil))) pa_nil)))) (nomark _)) (pss_one (ps_ret pe_bl)) pss_nil)), fun pn En sc p e x tr ns ys v2 v4 v5 v6 v7 v9 v10 v11 G M fx at_ no k => ?_⟩
  refine ⟨M.tb, fun pn1 fs H2 sub1 ex1 t1 hk l nl => ?_⟩
  obtain ⟨q0, q1, q2, rfl, i0, i1, i2⟩ := kept3 hk
  have S1 := Same.new (o := .lst ([q0, q1, q2].map fun p => V.ref p.1)) nl
  have M8 := (M.ext ex1 t1).same S1
  have B := (Bx.ext (a := p) ex1).trans (Bx.same S1)
  have hl8 := upd_same (H := H2) (a := l) (o := .lst ([q0, q1, q2].map fun p => V.ref p.1))
  have fx8 : LamX.ExtN H2 (upd H2 l (.lst ([q0, q1, q2].map fun p => V.ref p.1))) := LamX.ExtN.of fun b' o' e => S1 b' o' e
  have k0 := i0.mono (fun q h => h) fx8
  have k1 := i1.mono (fun q h => h) fx8
  have k2 := i2.mono (fun q h => h) fx8
  clear hk S1 nl M
  dsimp only [tSeq, tIfS, tTest, tOp]
  refine LamX.asks (n := 3) (iv := 9) (qs := [q0, q1, q2]) (W := fun j => [.str (if j = 0 then "told" else "none"), .bl (decide (j ≠ 0))]) (fun R r => ⟨_, rfl, r⟩) hl8 rfl (by decide) (fun j q hq => ?_) (fun _ => rfl) (fun _ => rfl) (fun j hj G' Q' S k => ?_) (fun D ts G' S hD lt ht => ?_)
  · match j, hq with
    | 0, hq => cases hq; exact k0
    | 1, hq => cases hq; exact k1
    | 2, hq => cases hq; exact k2
  · have at9 := at_ _ (B.trans (Bx.same S))
    match j, hj with
    | 0, hj => rw [(slC _).1]; exact tellO T kt rfl at9 fx no 0 hj k
    | 1, hj => rw [(slC _).2.1]; exact tellO T kt rfl at9 fx no 1 hj k
    | 2, hj => rw [(slC _).2.2]; exact tellO T kt rfl at9 fx no 2 hj k
  · refine ⟨(show 2 ≤ sizeLine by decide), fun u0 m0 => ⟨(show 2 ≤ sizeLine by decide), fun u1 m1 => ⟨(show 2 ≤ sizeLine by decide), fun u2 m2 => ⟨(show 3 ≤ sizeLine by decide), fun ul ml => ?_⟩⟩⟩⟩
    have U0 := Same.new (o := .tup [.str "told", .bl false]) m0
    have U1 := Same.new (o := .tup [.str "none", .bl true]) m1
    have U2 := Same.new (o := .tup [.str "none", .bl true]) m2
    have U3 := Same.new (o := .lst [.ref u0, .ref u1, .ref u2]) ml
    have U23 := U2.trans U3
    have U13 := U1.trans U23
    have U := U0.trans U13
    refine ⟨wantD "told" "none" false true true, wantD "told" "none" false true true, dp3 (u := "told") (v := "none") (b := fun j => decide (j ≠ 0)) (U _ _ hD) lt (fun j t h => U _ _ (ht j t h)), .lst (SqL.of upd_same) (.cons (toldD (U13 _ _ upd_same)) (.cons (toldD (U23 _ _ upd_same)) (.cons (toldD (U3 _ _ upd_same)) .nil))), want_none.1, want_none.1, _, rfl, ?_⟩
    rw [want_none.2]
    exact iteF (k _ _ (M8.same (S.trans U)))
end
end K01

set_option maxRecDepth 100000
set_option maxHeartbeats 4000000
namespace K01
open PySem PySem.Spec PyProof.Rows L2 He VH RZ
section
variable {P : Program} {w : World} {K : PySem.W.Frag} {mg : Str → Option Value} {base : Heap} {f c Pt : Addr} {A : Around} {outer : List Env} {s : Shared} {H0 : Hp} {E : XK} {dI dR dN : FuncData}
theorem seg7 (T : Txt K mg w) (fns : Fns K) {Tt : List (Addr × Str)} (hr : Room 7 (A.deeper (envOfC "law" (defScope sLaw) s.heap.objs.size f (.ref c))))
    {u : List (Addr × Obj) → TS} (hu : ∀ pn, PSs (LwCx P w K mg base f (.ref c) A outer s H0 E pn) (turnB.drop 9) (u pn)) :
    ∃ t : List (Addr × Obj) → TS, (∀ pn, PSs (LwCx P w K mg base f (.ref c) A outer s H0 E pn) (turnB.drop 7) (t pn)) ∧ ∀ (pn : List (Addr × Obj)) (En : Ends) (sc p e ps : Addr) (st : Stp) (ns : List Int) (ys : List V) (v2 v4 v6 v7 v8 v9 v10 v11 : Option V) (G : Hp), Ml K Tt sc p e ns ys G → StAt G ps st → st.ok = true →
      (∀ (x : V) (tr : Tr) (G : Hp), Ml K Tt sc p e ns ys G → tr.fine = true → (∀ G', Bx p G G' → At K G' x tr) → isSt tr = false → u pn En [some (.ref sc), some (.ref e), v2, some (.ref p), v4, some (.ref ps), v6, v7, some x, v9, v10, v11] G) →
      (∀ (v8 : Option V) (G : Hp), Ml K Tt sc p e ns ys G → En.ct [some (.ref sc), some (.ref e), v2, some (.ref p), v4, some (.ref ps), v6, v7, v8, v9, v10, v11] G) →
      t pn En [some (.ref sc), some (.ref e), v2, some (.ref p), v4, some (.ref ps), v6, v7, v8, v9, v10, v11] G := by
  obtain ⟨fdB, FB⟩ := fns.f_l_bent
  have GB : FnOk P w K mg base CX0 5 (ga K "_law_bent") fdB ["_law_well_here", "_law_step"] (spBent K) := ok_bent FB T fns
  have u65 : (A.deeper (envOfC "law" (defScope sLaw) s.heap.objs.size f (.ref c))).units + 65 < cLine := by have := hr.un; omega
  refine ⟨fun pn => _, fun pn => pss_cons (ps_set (X := LwCx P w K mg base f (.ref c) A outer s H0 E pn) (i := 8) scLaw.nd rfl (Or.inr rfl) (pe_call GB (hr.mono (by decide)) (by rfl) T.m_l_bent FB.kp (bBent FB) .nil pass0 (pa_cons (pv 3) (pa_cons (pv 5) pa_nil))))
    (pss_cons (ps_if (pt_cmpR (op_inT u65) (pv 8) (pv 1) (by rfl)) (pss_one ps_continue) pss_nil) (hu pn)), fun pn En sc p e ps st ns ys v2 v4 v6 v7 v8 v9 v10 v11 G M at_ ok k kc => ?_⟩
  refine ⟨_, rfl, _, rfl, p, ps, st, rfl, M.wl, at_, ok, fun G1 x w1 b1 ob => ?_⟩
  have M1 := M.but b1 w1
  obtain ⟨tr, fx, hx⟩ := ob
  obtain ⟨b, hb⟩ := tot_any tr allL
  refine ⟨_, rfl, _, rfl, tr, allL.map Stp.tr, b, hx G1 Bx.refl, .lst (SqL.of M1.he) M1.ge.ats, hb, L_deps, _, rfl, ?_⟩
  cases b with
  | true => exact iteT (kc _ G1 M1)
  | false =>
    refine iteF (k x tr G1 M1 fx hx ?_)
    cases h : isSt tr with
    | false => rfl
    | true =>
      rw [st_in h] at hb
      cases hb
theorem seg0 (T : Txt K mg w) (fns : Fns K) {Tt : List (Addr × Str)} (hr : Room 7 (A.deeper (envOfC "law" (defScope sLaw) s.heap.objs.size f (.ref c))))
    {u : TS} (hu : PSs (LwCx P w K mg base f (.ref c) A outer s H0 E []) (turnB.drop 2) u) :
    ∃ t : TS, PSs (LwCx P w K mg base f (.ref c) A outer s H0 E []) turnB t ∧ ∀ (En : Ends) (sc p e : Addr) (ns : List Int) (ys : List V) (v2 v4 v5 v6 v7 v8 v9 v10 v11 : Option V) (G : Hp), Ml K Tt sc p e ns ys G →
      (∀ (ps dl : Addr) (st : Stp) (G : Hp), Ml K Tt sc p e ns ys G → StAt G ps st → st.ok = true → dl ≠ p → Due st dl G → u En [some (.ref sc), some (.ref e), v2, some (.ref p), v4, some (.ref ps), some (.ref dl), v7, v8, v9, v10, v11] G) →
      t En [some (.ref sc), some (.ref e), v2, some (.ref p), v4, v5, v6, v7, v8, v9, v10, v11] G := by
  obtain ⟨fdO, FO⟩ := fns.f_l_one
  obtain ⟨fdD, FD⟩ := fns.f_l_draw
  obtain ⟨fdR, FR⟩ := fns.f_l_needs_read
  obtain ⟨fdN, FN⟩ := fns.f_l_needs_input
  have GO : FnOk P w K mg base CX0 2 (ga K "_law_one") fdO ["_law_well_here", "_law_some"] (spOne K) := ok_one FO FD T.m_l_draw T.g_int T.g_len
  have GR : FnOk P w K mg base CX0 1 (ga K "_law_needs_read") fdR ["_law_step"] (spLn rdW) := ok_lnr FR T
  have GN : FnOk P w K mg base CX0 1 (ga K "_law_needs_input") fdN ["_law_step"] (spLn tkW) := ok_lni FN T
  have big : 1000 < sizeLine := by decide
  refine ⟨_, pss_cons (ps_set (X := LwCx P w K mg base f (.ref c) A outer s H0 E []) (i := 5) scLaw.nd rfl (Or.inr rfl) (pe_call GO (hr.mono (by decide)) (by rfl) T.m_l_one FO.kp (bOne FO) .nil pass0 (pa_cons (pv 3) (pa_cons (pv 1) pa_nil))))
    (pss_cons (ps_set (i := 6) scLaw.nd rfl (Or.inl rfl) (pe_lst (pa_cons (pe_tup (pa_cons pe_str (pa_cons pe_bl pa_nil)))
      (pa_cons (pe_tup (pa_cons pe_str (pa_cons (pe_call GR (hr.mono (by decide)) (by rfl) T.m_l_needs_read FR.kp (bLnr FR) .nil pass0 (pa_cons (pv 5) pa_nil)) pa_nil)))
      (pa_cons (pe_tup (pa_cons pe_str (pa_cons (pe_call GN (hr.mono (by decide)) (by rfl) T.m_l_needs_input FN.kp (bLni FN) .nil pass0 (pa_cons (pv 5) pa_nil)) pa_nil))) pa_nil))))) hu), fun En sc p e ns ys v2 v4 v5 v6 v7 v8 v9 v10 v11 G M k => ?_⟩
  have l162 := M.ge.len162
  refine ⟨_, rfl, _, rfl, p, e, ys, rfl, M.wl, M.ep, M.he, by omega, by omega, fun G1 x hx w1 b1 => ?_⟩
  have M1 := M.but b1 w1
  obtain ⟨i, hi⟩ := List.mem_iff_getElem?.mp hx
  obtain ⟨ps, st, rfl, hs, at_⟩ := M1.ge.get hi
  have ok := allL_ok st (List.mem_of_getElem? hs)
  refine ⟨(show 2 ≤ sizeLine by decide), fun d0 n0 => ?_⟩
  have S0 := Same.new (o := .tup [.str "told", .bl true]) n0
  have h0 := upd_same (H := G1) (a := d0) (o := .tup [.str "told", .bl true])
  have M2 := M1.same S0
  have at2 := at_.same fun _ _ z => S0 _ _ z
  clear S0 n0 M1 at_
  generalize upd G1 d0 (.tup [.str "told", .bl true]) = G2 at h0 M2 at2 ⊢
  refine ⟨_, rfl, ps, st, rfl, at2, ok, fun G3 S3 => ⟨(show 2 ≤ sizeLine by decide), fun d1 n1 => ?_⟩⟩
  have S4 := S3.trans (Same.new (o := .tup [.str "told", .bl (hasW st rdW)]) n1)
  have h1 := upd_same (H := G3) (a := d1) (o := .tup [.str "told", .bl (hasW st rdW)])
  have M4 := M2.same S4
  have at4 := at2.same fun _ _ z => S4 _ _ z
  have h0 := S4 _ _ h0
  clear S3 S4 n1 M2 at2
  generalize upd G3 d1 (.tup [.str "told", .bl (hasW st rdW)]) = G4 at h0 h1 M4 at4 ⊢
  refine ⟨_, rfl, ps, st, rfl, at4, ok, fun G5 S5 => ⟨(show 2 ≤ sizeLine by decide), fun d2 n2 => ⟨(show 3 ≤ sizeLine by decide), fun dl ndl => ?_⟩⟩⟩
  have S6 := S5.trans (Same.new (o := .tup [.str "told", .bl (hasW st tkW)]) n2)
  have h2 := upd_same (H := G5) (a := d2) (o := .tup [.str "told", .bl (hasW st tkW)])
  have M6 := M4.same S6
  have Sl := Same.new (o := .lst [.ref d0, .ref d1, .ref d2]) ndl
  exact k ps dl st _ (M6.same Sl) (at4.same fun _ _ z => Sl _ _ (S6 _ _ z)) ok (M6.wl.new ndl) ⟨d0, d1, d2, upd_same, Sl _ _ (S6 _ _ h0), Sl _ _ (S6 _ _ h1), Sl _ _ h2⟩
/-- the turn -/
theorem turn (T : Txt K mg w) (kt : Kit K) (fns : Fns K) {Tt : List (Addr × Str)} (TB : LamX.TabB base mg c Pt) (hm : ((Pt, nmL) : Addr × Str) ∈ Tt) (hu' : ∀ p ∈ Tt, p.1 = Pt → p.2 = nmL) (hr : Room 7 (A.deeper (envOfC "law" (defScope sLaw) s.heap.objs.size f (.ref c)))) :
    ∃ t : TS, PSs (LwCx P w K mg base f (.ref c) A outer s H0 E []) turnB t ∧ ∀ (En : Ends) (sc p e : Addr) (ns : List Int) (ys : List V) (v2 v4 v5 v6 v7 v8 v9 v10 v11 : Option V) (G : Hp), Ml K Tt sc p e ns ys G →
      (∀ (v5 v6 v7 v8 v9 v10 v11 : Option V) (G : Hp), Ml K Tt sc p e ns ys G → En.nx [some (.ref sc), some (.ref e), v2, some (.ref p), v4, v5, v6, v7, v8, v9, v10, v11] G ∧ En.ct [some (.ref sc), some (.ref e), v2, some (.ref p), v4, v5, v6, v7, v8, v9, v10, v11] G) →
      t En [some (.ref sc), some (.ref e), v2, some (.ref p), v4, v5, v6, v7, v8, v9, v10, v11] G := by
  obtain ⟨dI, dR, dN, Z⟩ := asked (P := P) (base := base) T fns
  obtain ⟨tC, pC, rC⟩ := segC (A := A) (outer := outer) (s := s) (H0 := H0) (E := E) (f := f) T kt fns Z TB hm hu' hr
  obtain ⟨t7, p7, r7⟩ := seg7 (Tt := Tt) T fns hr pC
  obtain ⟨tB, pB, rB⟩ := segB T fns Z TB hm hu' hr p7
  obtain ⟨tA, pA, rA⟩ := segA T fns Z TB hm hu' hr pB
  obtain ⟨t0, p0, r0⟩ := seg0 (Tt := Tt) T fns hr (pA [])
  refine ⟨t0, p0, fun En sc p e ns ys v2 v4 v5 v6 v7 v8 v9 v10 v11 G M k => ?_⟩
  refine r0 En sc p e ns ys v2 v4 v5 v6 v7 v8 v9 v10 v11 G M fun ps dl st G M at_ ok dlp due => ?_
  refine rA [] En sc p e ps dl st ns ys v2 v4 v7 v8 v9 v10 v11 G M at_ ok dlp due fun pn v7 G M at_ due => ?_
  refine rB pn En sc p e ps dl st ns ys v2 v4 v7 v8 v9 v10 v11 G M at_ ok dlp due fun pn v7 G M at_ => ?_
  refine r7 pn En sc p e ps st ns ys v2 v4 (some (.ref dl)) v7 v8 v9 v10 v11 G M at_ ok (fun x tr G M fx at_ no => ?_) (fun v8 G M => (k _ _ _ _ _ _ _ G M).2)
  exact rC pn En sc p e x tr ns ys v2 v4 _ _ v7 v9 v10 v11 G M fx at_ no fun v7 G M => (k _ _ _ _ _ _ _ G M).1
end
end K01

set_option maxRecDepth 100000
set_option maxHeartbeats 4000000
namespace K01
open PySem PySem.Spec PyProof.Rows L2 He VH RZ
abbrev Tt1 (Pt : Addr) : List (Addr × Str) := [(Pt, nmL)]
theorem hu1 {Pt : Addr} : ∀ p ∈ Tt1 Pt, p.1 = Pt → p.2 = nmL := fun p hp _ => by rw [List.mem_singleton.mp hp]
/-- a def whose code object is known -/
theorem okC {P : Program} {w : World} {K : PySem.W.Frag} {mg : Str → Option Value} {base : Heap} {x qual : Str} {params : Arguments} {body : List Stmt} {scope : Scope} {dvs : List V} {kws : List (Str × V)} {p : He.Defn} {c : Addr} {fd : FuncData} {CX : CXT} {N ps : List Str} {k : Nat} {sp : Sp}
    (F : FunD K x qual params body scope dvs kws (He.fAd K p) fd) (hc : He.codeOf K p = c) (S : FnScope N ps scope) (len : ∀ vs H Q E, sp vs H Q E → vs.length = ps.length)
    (hbody : ∀ (A : Around) (outer : List Env) (s : Shared) (H : Hp) (vs : List V) (Q : VK) (E : XK), Room k (A.deeper (envOfC qual scope s.heap.objs.size (He.fAd K p) (.ref c))) → sp vs H Q E →
      ∃ t, PSs (cxOf CX P w K mg base N qual scope (He.fAd K p) (.ref c) A outer s H E) body t ∧ t { nx := fun _ H' => Q .non H', rt := Q } (L2.start N vs) H) : FnOk P w K mg base CX (k + 1) (He.fAd K p) fd ps sp := by
  obtain ⟨oc, od, dV, kV, doc, pm, an, cdv, ct, osl, rfl, lk, hcd, _, _⟩ := F.ex
  obtain ⟨c1, rfl⟩ := He.codeIn_ref hcd
  have e : He.codeOf K p = c1 := He.codeOf_eq lk rfl
  obtain rfl : c1 = c := e.symm.trans hc
  exact fn_of lk hcd S len fun A outer s H vs Q E hr hsp => hbody A outer s H vs Q E hr hsp
theorem sql_ne {K : PySem.W.Frag} {sc p : Addr} {H : Hp} {xs : List V} (h : SqL K H sc xs) (n : H p = none) : sc ≠ p ∨ ∀ G, SqL K G sc xs := by
  rcases h with (h | ⟨o, h⟩) | h
  · exact .inl (ne_of_none h n)
  · exact .inl (ne_of_none h n)
  · exact .inr fun _ => .inr h
theorem bWell {K : PySem.W.Frag} {f : Addr} {fd : FuncData} (F : FnP K "_law_well" sWell f fd) : Binds K fd ["_law_script", "_law_at"] [] := FunD.bindsN F fun _ _ _ _ _ _ us hl => match us, hl with | [_, _], _ => rfl
theorem bStm {K : PySem.W.Frag} {fd : FuncData} (F : FnStm K fd) : Binds K fd [] [] := FunD.bindsN F fun _ _ _ _ _ _ us hl => match us, hl with | [], _ => rfl
structure Al1 (K : PySem.W.Frag) (Tt : List (Addr × Str)) (sc e : Addr) (ns : List Int) (ys : List V) (G : Hp) : Prop where
  sq : SqL K G sc (ns.map V.int)
  tb : LamX.Tabs Tt G
  he : G e = some (.lst ys)
  ge : GL G ys allL
def spLaw (K : PySem.W.Frag) (Pt : Addr) : Sp := fun vs H Q _ => ∃ (a : Addr) (ns : List Int), vs = [.ref a] ∧ SqL K H a (ns.map V.int) ∧ ns.length ≤ 63 ∧ LamX.Tabs (Tt1 Pt) H ∧ ∀ H', Q (.bl true) H'
theorem dpTr {K : PySem.W.Frag} {H : Hp} (n : Nat) : DpAll K H (List.replicate n (V.bl true)) (List.replicate n (PyData.bool true)) := by
  induction n with
  | zero => exact .nil
  | succ n ih => exact .cons (.bl _) ih
theorem flat_rep (n : Nat) : (List.replicate n [V.bl true]).flatten = List.replicate n (V.bl true) := by
  induction n with
  | zero => rfl
  | succ n ih =>
    rw [List.replicate_succ, List.flatten_cons, ih, List.replicate_succ]
    rfl
theorem rep_shp : SeqAt.shaped (.list (List.replicate 162 (PyData.bool true))) = true := by decide +kernel
theorem rep_eq : PyData.eqv (.list (List.replicate 162 (PyData.bool true))) (.list (List.replicate 162 (PyData.bool true))) = true := by decide +kernel
section
variable {P : Program} {w : World} {K : PySem.W.Frag} {mg : Str → Option Value} {base : Heap} {c Pt : Addr} {fd : FuncData}
theorem ok_law (F : FnP K "law" sLaw (He.fAd K ("law", none)) fd) (T : Txt K mg w) (kt : Kit K) (fns : Fns K) (hc : He.codeOf K ("law", none) = c) (TB : LamX.TabB base mg c Pt) : FnOk P w K mg base CX0 8 (He.fAd K ("law", none)) fd ["_law_script"] (spLaw K Pt) := by
  obtain ⟨fdW, FW⟩ := fns.f_l_well
  obtain ⟨fdS, FS⟩ := fns.f_l_statements
  obtain ⟨fdC, FC⟩ := fns.f_l_checks_all
  have GS : FnOk P w K mg base CX0 2 (ga K "_law_statements") fdS [] spStm := ok_stm FS FC T.m_l_checks_all
  have GW : FnOk P w K mg base CX0 1 (ga K "_law_well") fdW ["_law_script", "_law_at"] (spWell K) := ok_well FW T.g_int
  obtain ⟨dI, dR, dN, Z⟩ := asked (P := P) (base := base) T fns
  refine okC F hc scLaw (fun vs H Q E h => ?_) (fun A outer s H vs Q E hr h => ?_)
  · obtain ⟨a, ns, rfl, _⟩ := h
    rfl
  obtain ⟨tT, pT, rT⟩ := turn (P := P) (w := w) (f := He.fAd K ("law", none)) (A := A) (outer := outer) (s := s) (H0 := H) (E := E) (Tt := Tt1 Pt) T kt fns TB (List.mem_singleton.mpr rfl) hu1 hr
  have u64 : (A.deeper (envOfC "law" (defScope sLaw) s.heap.objs.size (He.fAd K ("law", none)) (.ref c))).units + 64 < cLine := hr.units
  have r3 : Room 3 (A.deeper (envOfC "law" (defScope sLaw) s.heap.objs.size (He.fAd K ("law", none)) (.ref c))) := hr.mono (by decide)
  refine ⟨_, PSs.nox (pss_cons (ps_set (X := LwCx P w K mg base (He.fAd K ("law", none)) (.ref c) A outer s H E []) (i := 1) scLaw.nd rfl (Or.inl rfl) (pe_call0 GS (hr.mono (by decide)) (by rfl) T.m_l_statements FS.kp (bStm FS) .nil pass0))
    (pss_cons (ps_if (pt_cmpR op_ne (pe_callB call_len_seq (by rfl) T.g_len boot_len (pa_cons (pv 1) pa_nil)) pe_int (nomark _)) (pss_one (ps_ret pe_bl)) pss_nil)
    (pss_cons (ps_for PassesOwn.never rfl (pi_range1 (by rfl) T.g_range (pa_cons (pe_op op_add (pe_callB call_len_seq (by rfl) T.g_len boot_len (pa_cons (pv 0) pa_nil)) pe_int) pa_nil)) (pg_name (i := 2) scLaw.nd rfl (Or.inl rfl))
      (pss_cons (ps_set (i := 3) scLaw.nd rfl (Or.inl rfl) (pe_call GW (hr.mono (by decide)) (by rfl) T.m_l_well FW.kp (bWell FW) .nil pass0 (pa_cons (pv 0) (pa_cons (pv 2) pa_nil))))
      (pss_one (ps_for PassesOwn.never rfl (pi_range1 (by rfl) T.g_range (pa_cons pe_int pa_nil)) (pg_name (i := 4) scLaw.nd rfl (Or.inl rfl)) pT))))
    (pss_one (ps_ret (pe_cmpR (op_eqD u64) (pe_lc (own := [("_law_step", 5)]) (g := gName 5) (tt := tYes) (te := tCall (spIst K) [] E0 (tCons (tVar 5) tNil)) rfl scLaw.nd (pi_list (pv 1)) (blkOk_by (N := nLaw) (sc := defScope sLaw) (by decide +kernel))
        (fun _ _ _ _ _ => pg_name (i := 5) scLaw.nd rfl (Or.inl rfl)) (fun _ _ _ _ _ => pts_nil) (fun _ _ _ _ _ => pe_call Z.GI r3 (by rfl) T.m_is_statement Z.FI.kp (bIst Z.FI) .nil pass0 (pa_cons (pv 5) pa_nil)))
      (pe_op op_rep (pe_lst (pa_cons pe_bl pa_nil)) pe_int) (nomark _))))))), ?_⟩
  obtain ⟨sc, ns, rfl, ha, few, tb, k⟩ := h
  refine ⟨rfl, fun H1 e ys S1 nl he ge => ?_⟩
  have M : Al1 K (Tt1 Pt) sc e ns ys H1 := ⟨sqL_same' S1 ha, tb.ext S1, he, ge⟩
  have l162 := ge.len162
  clear S1 nl he ge ha tb
  refine ⟨_, rfl, e, ys, rfl, .inl (SqL.of M.he), rfl, _, rfl, ?_⟩
  rw [l162, show (!decide (V.int ((162 : Nat) : Int) = V.int 162)) = false by simp]
  refine iteF ⟨_, rfl, sc, _, rfl, .inl M.sq, _, _, rfl, rfl, _, rfl, ?_, ?_, ?_⟩
  · rw [List.length_map]
    omega
  · rw [List.length_map]
    omega
  rw [List.length_map]
  refine for_range (lo := 0) (n := ((ns.length : Int) + 1).toNat) (fun i σ G => ∃ v2 v3 v4 v5 v6 v7 v8 v9 v10 v11 : Option V, σ = [some (.ref sc), some (.ref e), v2, v3, v4, v5, v6, v7, v8, v9, v10, v11] ∧ Al1 K (Tt1 Pt) sc e ns ys G)
    ⟨none, none, none, none, none, none, none, none, none, none, rfl, M⟩ (fun i σ G lt q => ?_) (fun σ G q => ?_)
  · obtain ⟨v2, v3, v4, v5, v6, v7, v8, v9, v10, v11, rfl, M⟩ := q
    have lt' : i ≤ 63 := by omega
    refine ⟨_, rfl, _, rfl, sc, ns, i, by rw [Int.zero_add]; rfl, M.sq, few, lt', fun H3 p np wp S3 => ?_⟩
    have N : Ml K (Tt1 Pt) sc p e ns ys H3 := ⟨sqL_same' S3 M.sq, sql_ne M.sq np, wp, M.tb.ext S3, ne_of_none M.he np, S3 _ _ M.he, M.ge.tup (fun b u z => S3 _ _ z)⟩
    refine ⟨12, rfl, by decide, by decide, ?_⟩
    refine for_range (lo := 0) (n := 12) (fun j σ G2 => ∃ v4 v5 v6 v7 v8 v9 v10 v11 : Option V, σ = [some (.ref sc), some (.ref e), some (.int (0 + (i : Int))), some (.ref p), v4, v5, v6, v7, v8, v9, v10, v11] ∧ Ml K (Tt1 Pt) sc p e ns ys G2)
      ⟨_, _, _, _, _, _, _, _, rfl, N⟩ (fun j σ G2 _ q => ?_) (fun σ G2 q => ?_)
    · obtain ⟨v4, v5, v6, v7, v8, v9, v10, v11, rfl, N⟩ := q
      exact rT _ sc p e ns ys _ _ v5 v6 v7 v8 v9 v10 v11 G2 N fun v5 v6 v7 v8 v9 v10 v11 G N => ⟨⟨_, _, _, _, _, _, _, _, rfl, N⟩, ⟨_, _, _, _, _, _, _, _, rfl, N⟩⟩
    · obtain ⟨v4, v5, v6, v7, v8, v9, v10, v11, rfl, N⟩ := q
      exact ⟨_, _, _, _, _, _, _, _, _, _, rfl, N.sq, N.tb, N.he, N.ge⟩
  · obtain ⟨v2, v3, v4, v5, v6, v7, v8, v9, v10, v11, rfl, M⟩ := q
    have big : 1000 < sizeLine := by decide
    refine ⟨_, rfl, e, rfl, ⟨_, SqL.of M.he⟩, fun D nD => ?_⟩
    refine lc_list (K := K) (xs := ys) (fun i G' => Same G G' ∧ G' D = some (.lst (List.replicate i (.bl true)))) ⟨Same.new nD, upd_same⟩ (fun i G' _ g => SqL.of (g.1 _ _ M.he)) (fun i x G' hx g => ?_) (fun G' g => ?_)
    · obtain ⟨sG, hD⟩ := g
      have li := (List.getElem?_eq_some_iff.mp hx).1
      obtain ⟨ps, st, rfl, hs, at_⟩ := M.ge.get hx
      have ok := allL_ok st (List.mem_of_getElem? hs)
      refine ⟨rfl, _, rfl, _, true, rfl, (at_.same fun _ _ z => sG _ _ z).is ok, fun G2 S2 => ⟨_, S2 _ _ hD, ?_, same_put (sG.trans S2) nD, ?_⟩⟩
      · rw [List.length_replicate]
        omega
      · rw [upd_same, List.replicate_succ']
    · obtain ⟨sG, hD⟩ := g
      rw [l162] at hD
      refine ⟨(show 1 ≤ sizeLine by decide), fun p np => ?_⟩
      have Sp := Same.new (o := .lst [.bl true]) np
      refine ⟨p, 162, _, rfl, rfl, upd_same, by decide, by decide, ?_, fun q nq => ?_⟩
      · exact Nat.le_trans (show 1 * 162 ≤ 1000 by decide) (Nat.le_of_lt big)
      have Sq := Same.new (o := .lst (List.replicate (162 : Int).toNat [V.bl true]).flatten) nq
      have hq : upd (upd G' p (.lst [.bl true])) q (.lst (List.replicate (162 : Int).toNat [V.bl true]).flatten) q = some (.lst (List.replicate 162 (.bl true))) := by
        rw [upd_same, show (162 : Int).toNat = 162 from rfl, flat_rep]
      refine ⟨_, _, .lst (SqL.of (Sq _ _ (Sp _ _ hD))) (dpTr 162), .lst (SqL.of hq) (dpTr 162), rep_shp, rep_shp, ?_⟩
      rw [rep_eq]
      exact k _
end
end K01

set_option maxRecDepth 100000
set_option maxHeartbeats 0
namespace K01
open PySem PySem.Spec PyProof.Rows L2 He VH
theorem facts {w : World} {K : PySem.W.Frag} {h : Heap} {mg : Str → Option Value} {f : Addr} (X : K.In h) (G : h.Ns mainGlobals mg) (hfa : mg ("law" : Str) = some (.ref f)) (c : He.SaysX fa fn ts tf ex w h K) :
    LamX.LawAtS PySem.Challenge.rw_fillbehind_k01_whole_statements w K L2.CX0 8 63 "_law_script" mg f h := by
  have T := txt_of X G c
  have g : SaysD fa fn K := c.t.d
  have fns := fns_of g
  obtain ⟨fd, F⟩ := g.def_ 16 (d := dd 26 "law") rfl
  have e := hfa.symm.trans (glo_ok X G (g.fact 17 (f := .glo "law") rfl))
  cases e
  have b := FunD.bindsA (ps := ["_law_script"]) F fun _ _ _ _ _ _ us hl => match us, hl with | [_], _ => rfl
  have mem : (("law", none) : He.Defn) ∈ tf := List.mem_singleton.mpr rfl
  refine ⟨fd, [He.cT K ("law", none)], spLaw K (He.cT K ("law", none)).2, fun p hp => ?_, fun p hp => ?_, fun p hp => ?_, fun s v => b s [v] rfl, fun H a ns hl _ hT hS => ?_, fun base hb hg hTB => ?_⟩
  · rw [List.mem_singleton.mp hp]
    exact c.empty _ mem
  · rw [List.mem_singleton.mp hp]
    exact c.out _ mem
  · rw [List.mem_singleton.mp hp]
    exact PySem.W.codeHd_of_K X (c.hd _ mem)
  · refine ⟨a, ns, rfl, hS, hl, fun p hp => ?_, fun _ => rfl⟩
    rw [List.mem_singleton.mp hp]
    exact LamX.TabS.nil (hT _ (List.mem_singleton.mpr rfl))
  · exact ok_law F T (kit_of c) fns rfl (hTB _ (List.mem_singleton.mpr rfl))
end K01
open PySem PySem.W PySem.Calls PyProof.Rows
theorem PySem.Challenge.cw_fillbehind_k01_whole_statements_holds : PySem.Challenge.rw_fillbehind_k01_whole_statements.Holds := by
  w_on; o_law
  refine HandSHeadRun.head_any (r := OpenLaw.row PySem.Challenge.rw_fillbehind_k01_whole_statements) (q := view (OpenLaw.row PySem.Challenge.rw_fillbehind_k01_whole_statements).prog [26]) (H := K01.hk) (ob := K01.ob) (M := 20000) (loose := K01.names) (d := HandSHeadRun.topDef (OpenLaw.row PySem.Challenge.rw_fillbehind_k01_whole_statements).prog 26) (kwd := []) K01.ob_eq
    (by kernel_rfl) (fun s => by kernel_rfl) K01.run (by kernel_rfl) (by kernel_rfl) (by kernel_rfl) (by rfl) (by first | assumption | decide +kernel) (by decide +kernel) ⟨rfl, rfl, rfl, rfl, rfl, by decide +kernel⟩ ?hw ?hc
  case hw => w_witness2
  case hc =>
    refine LamX.walk_ofTsE (l := PySem.Challenge.rw_fillbehind_k01_whole_statements) (n := 63) (k := 8) (x := "_law_script") (CX := fun _ => L2.CX0) rfl (by decide) (by kernel_rfl) ⟨rfl, by decide, by decide⟩ ?F (fun _ _ _ _ _ z => z)
    intro w mg fa h Y G hmg0
    obtain ⟨K, KX, c⟩ := Y
    have hmg : mg ("law" : PySem.Str) = some (.ref fa) := by
      have e : (HandSHeadRun.topDef (OpenLaw.row PySem.Challenge.rw_fillbehind_k01_whole_statements).prog 26).name = ("law" : PySem.Str) := by kernel_rfl
      rw [← e]
      exact hmg0
    exact ⟨K, KX, K01.facts KX G hmg c⟩
