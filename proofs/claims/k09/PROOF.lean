import PyProof.Rows.All
import Wide.All
import OpenK.AllK
import Wide.FinOn
import KE.KStateDown
import HandS.HeadHook2
import HandS.Head0
import HandS.Head1
import HandS.Head2
import HandS.HeadEnd
import HandS.ExcInit
import HandS.ExcIs
import HandS.ExcField
import HandS.MakeKw
import HandS.Words
import HandS.Defaults
import HandS.HeadHook4
import HandS.HeadWalk
import HandS.NestedK
import HandS.OwnEq
import HandS.Star
import HandS.SlotsOwn
import HandS.More
import HandS.IsInst
import HandS.ForMost
import HandS.Wide
import HandS.Walk
import HandS.Strs
import HandS.Text
import HandS.Conv
import HandS.DictEq
import PyProof.EqKinds
import HandS.Zip
import HandS.TupAny
import HandS.MakeKwOnly
import KE.GoesEnum
import HandS.Iter
import PyProof.NeKinds
import HandS.Lambda
import KE.KDflt
import HandS.TryMany
import HandS.Style
import PySem.Challenge.RW_fillbehind_k09_rollouts
set_option Elab.async false
set_option linter.all false
set_option maxRecDepth 100000
set_option maxHeartbeats 4000000
/-! An own exception class over ValueError (at any depth), its object held as a value: made by place and by name. -/
namespace PySem.VX
open PySem PySem.Calls PyProof.Rows PySem.HandSPX
section
variable {M : Model} {A : Around} {E : Value → Shared → Prop} {h : Heap} {g : Array GenState} {d : Drawn} {t : Nat} {os : OsState}
variable {nm q : Str} {C N : Addr} {bs bm bmB : List Value} {hdct : Bool} {sn : List Str} {sub : List Value} {ab : Bool} {col : Option Bool} {dd : Option Addr} {k0 k1 k2 k3 k5 : Option Value} {B newId initId : String}

theorem look_new (F : ExcBaseFacts B newId initId bmB) (same : ∀ Y : String, bm.contains (.type Y) = bmB.contains (.type Y)) {ps : List Value} {kw : List (Str × Value)} {Q : Unit → Shared → Prop}
    (hC : h.get? C = some (excClassObj nm q C N bs bm hdct sn sub ab col dd k0 k1 k2 k3 k5 newId)) (go : Q () ⟨h, g, d, t, os⟩) :
    wpAny M A (checkBuiltinCall newId ⟨.ref C :: ps, kw⟩) Q E ⟨h, g, d, t, os⟩ := by
  have isB : (Value.ref C :: bm).contains (.type B) = true := by rw [List.contains_cons, same, F.hasB, Bool.or_true]
  have nost := F.noStar
  simp only [checkBuiltinCall, F.newKind, F.newSplit, F.newRow]
  repeat (first
    | refine wpAny_loadPart_at hC ?_
    | (refine wpAny_isSubtype_exc hC ?_; rw [isB])
    | refine wpAny_staticBase_exc hC ?_
    | refine wpAny_madeBy_exc hC ?_
    | simp only [bne_self_eq_false, Bool.false_eq_true, if_false]
    | wp_step)
  exact go
end

section
variable {prog : Program} {w : World} {A : Around} {E : Value → Shared → Prop} {R : Result → Shared → Prop} {h : Heap} {g : Array GenState} {d : Drawn} {t : Nat} {os : OsState}
variable {nm q : Str} {C N : Addr} {bs bm bmB : List Value} {hdct : Bool} {sn : List Str} {sub : List Value} {ab : Bool} {col : Option Bool} {dd : Option Addr} {k0 k1 k2 k3 k5 : Option Value} {B newId initId : String}
/-- the heap behind BaseException.__new__ -/
abbrev newH (h : Heap) (C : Addr) (ps : List Value) : Heap := (h.push (PySem.W.kdv_tup ps)).push (excO C h.objs.size)

theorem is_new (F : ExcBaseFacts B newId initId bmB) (same : ∀ Y : String, bm.contains (.type Y) = bmB.contains (.type Y)) {ps : List Value} {kw : List (Str × Value)}
    (hC : h.get? C = some (excClassObj nm q C N bs bm hdct sn sub ab col dd k0 k1 k2 k3 k5 newId)) (few : ps.length ≤ sizeLine)
    (go : R (.ok (.ret (.ref (h.objs.size + 1)))) ⟨newH h C ps, g, d, t, os⟩) :
    codeAny (model prog w) A (.builtin newId ⟨.ref C :: ps, kw⟩) R ⟨h, g, d, t, os⟩ := by
  have isB : (Value.ref C :: bm).contains (.type B) = true := by rw [List.contains_cons, same, F.hasB, Bool.or_true]
  have noA : (Value.ref C :: bm).contains (.type "AttributeError") = false := by rw [List.contains_cons, same, F.noAttr]; rfl
  have noN : (Value.ref C :: bm).contains (.type "NameError") = false := by rw [List.contains_cons, same, F.noName]; rfl
  have en := F.ends
  refine codeAny_builtinAt F.entry ?_
  unfold Builtin.«BaseException.__new__»
  refine wpAt_bind ?_
  show wpAt _ _ _ (stack >>= _) _ _ _
  refine wpAt_bind (wpAt_stack fun p under => wpAt_of_wpAny ?_)
  wp_walk
  refine wpAt_of_wpAny ?_
  rw [F.owner]
  repeat (first
    | with_reducible refine wpAny_madeHere_exc F.canon hC ?_
    | with_reducible refine wpAny_loadPart_at hC ?_
    | (with_reducible refine wpAny_isSubtype_exc hC ?_; first | rw [isB] | rw [noA] | rw [noN])
    | wp_step)
  show R _ _
  rw [Heap.size_push]
  exact go

theorem is_call (F : ExcBaseFacts B newId initId bmB) (same : ∀ Y : String, bm.contains (.type Y) = bmB.contains (.type Y)) {ps : List Value} {kw : List (Str × Value)} {fI : Addr} {Q : Fin → Shared → Prop}
    (hC : h.get? C = some (excClassObj nm q C N bs bm hdct sn sub ab col dd k0 k1 k2 k3 k5 newId)) (few : ps.length ≤ sizeLine)
    (ini : W.Looks (model prog w) h (typeLookup (.ref C) "__init__") (some (.ref fI))) (bnd : ∀ o, W.Looks (model prog w) h (bindSpecial (.ref fI) o) (.ref fI, [o]))
    (go : codeAny (model prog w) A (.call (.ref fI) ⟨.ref (h.objs.size + 1) :: ps, kw⟩)
      (fun r s' => match r with | .ok (.ret v) => v = .none ∧ Q (.done (.ret (.ref (h.objs.size + 1)))) s' | .ok _ => False | .error e => E e s') ⟨newH h C ps, g, d, t, os⟩) :
    wpAny (model prog w) A (Builtin.«type.__call__» ⟨.ref C :: ps, kw⟩) Q E ⟨h, g, d, t, os⟩ := by
  repeat (first
    | with_reducible refine wpAny_loadPart_at hC ?_
    | with_reducible refine wpAny_madeBy_exc hC ?_
    | wp_step)
  refine codeAny_call_builtin_code (Code.quiet_builtin _ F.quiet) (look_new F same hC ?_)
  refine is_new F same hC few ?_
  show wpAny _ _ _ _ _ _
  have keeps : ∀ b o, h.get? b = some o → (newH h C ps).get? b = some o := fun b o e => Heap.get?_push_of_some _ (Heap.get?_push_of_some _ e)
  have hC2 := keeps _ _ hC
  have at_e : (newH h C ps).get? (h.objs.size + 1) = some (excO C h.objs.size) := by heap_get
  have itself : (Value.ref C :: bm).contains (.ref C) = true := by simp
  have ini2 := ini.keeps keeps
  have bnd2 := (bnd (.ref (h.objs.size + 1))).keeps keeps
  unfold isInstance
  repeat (first
    | with_reducible refine wpAny_loadPart_at at_e ?_
    | (with_reducible refine wpAny_isSubtype_exc hC2 ?_; rw [itself])
    | wp_step)
  show wpAny _ _ (typeLookup (.ref C) _) _ _ _
  refine ini2.at ?_
  refine wpAny_holding (wpAny_bind (bnd2.at ?_))
  refine wpAny_bind (wpAny_call (codeAny_mono go fun r s' z => ?_))
  rcases r with e | (v | _ | _ | _) <;> first | exact z | exact z.elim | skip
  obtain ⟨rfl, z2⟩ := z
  first
    | exact wpAny_pure (wpAny_pure z2)
    | (wp_walk; exact z2)

theorem look_call {M : Model} {E : Value → Shared → Prop} {ps : List Value} {kw : List (Str × Value)} {Q : Unit → Shared → Prop} (hC : h.get? C = some (excClassObj nm q C N bs bm hdct sn sub ab col dd k0 k1 k2 k3 k5 newId)) (go : Q () ⟨h, g, d, t, os⟩) :
    wpAny M A (checkBuiltinCall "type.__call__" ⟨.ref C :: ps, kw⟩) Q E ⟨h, g, d, t, os⟩ := by
  have f := tc_sub
  have ty : (⟨h, g, d, t, os⟩ : Shared).TypeIs (.ref C) "type" := ⟨_, hC, rfl⟩
  simp only [checkBuiltinCall, tc_kind, tc_split]
  repeat (any_goals (first
    | assumption
    | with_reducible refine wpAny_loadPart_at hC ?_
    | with_reducible refine wpAny_onRaise ?_
    | with_reducible refine wpAny_map ?_
    | wp_step))

theorem call_it (F : ExcBaseFacts B newId initId bmB) (same : ∀ Y : String, bm.contains (.type Y) = bmB.contains (.type Y)) {ps : List Value} {kw : List (Str × Value)} {fI : Addr}
    (hC : h.get? C = some (excClassObj nm q C N bs bm hdct sn sub ab col dd k0 k1 k2 k3 k5 newId)) (few : ps.length ≤ sizeLine)
    (ini : W.Looks (model prog w) h (typeLookup (.ref C) "__init__") (some (.ref fI))) (bnd : ∀ o, W.Looks (model prog w) h (bindSpecial (.ref fI) o) (.ref fI, [o]))
    (go : codeAny (model prog w) (A.under (.builtin "type.__call__" ⟨.ref C :: ps, kw⟩)) (.call (.ref fI) ⟨.ref (h.objs.size + 1) :: ps, kw⟩) (W.InitBack (h.objs.size + 1) R) ⟨newH h C ps, g, d, t, os⟩) :
    codeAny (model prog w) A (.call (.ref C) ⟨ps, kw⟩) R ⟨h, g, d, t, os⟩ := by
  have f1 := tc_lookup
  have f2 := tc_bind (.ref C)
  have ty : (⟨h, g, d, t, os⟩ : Shared).TypeIs (.ref C) "type" := ⟨_, hC, rfl⟩
  refine codeAny_of_tree ?_
  show wpAny _ _ (callAny (.ref C) _) _ _ _
  repeat (any_goals (first
    | assumption
    | with_reducible refine wpAny_loadPart_at hC ?_
    | wp_step))
  refine ⟨rfl, ?_⟩
  refine codeAny_call_builtin_at (Code.quiet_builtin _ (by decide +kernel)) entry_typeCall (look_call hC (is_call F same hC few ini bnd ?_))
  refine codeAny_mono go fun r s' z => ?_
  rcases r with e | (v | _ | _ | _) <;> exact z
end
end PySem.VX

set_option maxRecDepth 100000
set_option maxHeartbeats 4000000
/-! isinstance of an own exception's object that has a dict, or none. -/
namespace PySem.W
open PySem PySem.Spec PySem.Calls PyProof.Rows
section
variable {prog : Program} {w : World} {A : Around} {E : Value → Shared → Prop} {s : Shared} {K : Frag} {x D : Addr} {ox : Obj} {od : Option Obj}
theorem vx_bound {C : Addr} {y : Str} {v gg : Value} (is : (clsIn K C).isSome = true) (f : findIn K (.ref C) y = some (some v)) (gt : specialIn K v "__get__" = some (some gg)) (tk : takesIn K v = some true) :
    findObj K C od y = some (.bind gg v) := by
  obtain ⟨cd, e⟩ := Option.isSome_iff_exists.mp is
  unfold findObj
  rw [e, Option.bind_some, f, Option.bind_some]
  simp [gt, tk]
theorem vx_class {Q : Option Value → Shared → Prop} (C : L2.ExcC K D) (X : K.In s.heap) (I : InstAt s.heap x ox D od) (go : Q (some (.ref D)) { s with toks := s.toks + 1 }) :
    wpAny (model prog w) A (getAttr? (.ref x) "__class__") Q E s := by
  have is : (clsIn K D).isSome = true := by
    obtain ⟨cd, hc, _⟩ := any_some C.hd
    rw [hc]; rfl
  have fo : findObj K D od "__class__" = some (.bind (.builtin "getset_descriptor.__get__") (.builtin "object.__class__")) := vx_bound is C.ha C.hn C.ht
  obtain ⟨hh, gs, dr, tk, os⟩ := s
  have T0 := I.type (M := model prog w)
  have T1 := looks_findIn (M := model prog w) X C.hg
  have T2 := looks_findIn (M := model prog w) X C.hk
  have T3 := looks_find (M := model prog w) X I fo
  have sub : Looks (model prog w) hh (isInstance (.ref x) (.type "BaseException")) true := T0.andThen (looks_subIn X C.hs)
  have n0 : (false && onTheHeap (Value.builtin "BaseException.__getattribute__")) = false := rfl
  have n2 : (Value.builtin "BaseException.__getattribute__" == Value.builtin "object.__getattribute__") = false := by decide +kernel
  have n1 : (onTheHeap (Value.ref D) && Value.builtin "BaseException.__getattribute__" == Value.builtin "object.__getattribute__") = false := by
    rw [n2]; rfl
  unfold getAttr? getAttrBy? getAttrBy
  refine wpAny_bind (wpAny_mkText (wpAny_bind (wpAny_attempt (wpAny_holding (wpAny_bind (T0.at (wpAny_bind (T1.at ?_))))))))
  show wpAny _ _ (if (onTheHeap (Value.ref D) && Value.builtin "BaseException.__getattribute__" == Value.builtin "object.__getattribute__") = true
    then _ else _) _ _ _
  rw [n1, if_neg Bool.false_ne_true]
  unfold getAttrByItsOwn hookBefore
  refine wpAny_bind ?_
  rw [if_pos (show onTheHeap (Value.ref D) = true from
    rfl)]
  refine T2.at ?_
  refine wpAny_bind (wpAny_attempt (wpAny_holding ?_))
  unfold callGetattribute
  rw [n0, if_neg Bool.false_ne_true]
  unfold boundAndCalled
  rw [PySem.F.excAttr_ValueError.ga.bind (Value.ref x)]
  refine wpAny_bind (wpAny_pure ?_)
  show wpAny _ _ (call (.builtin "BaseException.__getattribute__") [.ref x, .str "__class__" tk]) _ _ _
  refine wpAny_call (codeAny_call_builtin (PySem.F.excAttr_ValueError.ga.plain) PySem.F.entry_bexc_ga ?_)
  refine @check_slot (model prog w) _ _ ⟨hh, gs, dr, tk + 1, os⟩ "BaseException.__getattribute__" "BaseException" "__getattribute__" (.ref x) [.str "__class__" tk] [] _
    (by decide +kernel) (by decide +kernel) sub (PySem.F.args_bexc_ga (.ref x) (.str "__class__" tk)) ?_
  unfold Builtin.«object.__getattribute__»
  refine wpAny_bind (wpAny_of_eq (a := ((Value.ref x : Value), [Value.str "__class__" tk])) (by
    first | rfl | (simp only [slotArgs]; rfl)) ?_)
  refine wpAny_bind (wpAny_pure (wpAny_bind (T0.at (wpAny_bind (T3.at ?_)))))
  show wpAny _ _ (holding [Value.builtin "object.__class__"] (call (.builtin "getset_descriptor.__get__")
    [.builtin "object.__class__", .ref x, .ref D]) >>= ret) _ _ _
  refine wpAny_bind (wpAny_holding (wpAny_call (class_get (s := ⟨hh, gs, dr, tk + 1, os⟩) (ox := ox) (od := od) X I C.hm ?_)))
  refine wpAny_pure ?_
  show wpAny _ _ (handedOut (.ref D)) _ _ _
  rw [handedOut_of (v := Value.ref D) rfl]
  first
    | exact wpAny_pure (wpAny_pure go)
    | exact wpAny_pure go
theorem vx_kit (C : L2.ExcC K D) : KitX K (.ref x) (.ref D) (fun h => ∃ ox od, InstAt h x ox D od) where
  ty := fun _ _ _ ⟨_, _, I⟩ => I.type
  it := fun _ _ X _ => by
    obtain ⟨cd, hc, _⟩ := any_some C.hd
    unfold clsIn at hc
    split at hc
    · rename_i ho
      intro A' Q' E' s' k q
      unfold isType loadHead
      exact wpAny_bind (wpAny_loadPart (k _ _ (X _ _ ho))
        (wpAny_pure q))
    · cases hc
  ne := fun h tp dd its n sl X htp => by
    obtain ⟨cd, hc, _⟩ := any_some C.hd
    refine Bool.eq_false_iff.mpr fun same => ?_
    have e : D = tp := Value.ref.inj (beq_iff_eq.mp same)
    subst e
    unfold clsIn at hc
    split at hc
    · rename_i ho
      have z := (X _ _ ho).symm.trans htp
      cases z
    · cases hc
  ca := fun X ⟨_, _, I⟩ k => vx_class C X I k
end
end PySem.W

set_option maxRecDepth 100000
set_option maxHeartbeats 4000000
/-! An own exception's object as a value, over the layer: made, its fields read, asked for its class. -/
namespace L2
open PySem PySem.Spec PyProof.Rows

/-- at a: an exception of the class at C, these its fields -/
def IsEx (H : Hp) (a C : Addr) (fs : List (Str × V)) : Prop := (fs = [] ∧ H a = some (exo a C none)) ∨ ∃ dx, H a = some (exo a C (some dx)) ∧ H dx = some (exd dx fs)
theorem IsEx.same {H H' : Hp} {a C : Addr} {fs : List (Str × V)} (h : IsEx H a C fs) (e : Same H H') : IsEx H' a C fs := by
  rcases h with ⟨h1, h2⟩ | ⟨dx, h1, h2⟩
  · exact .inl ⟨h1, e _ _ h2⟩
  · exact .inr ⟨dx, e _ _ h1, e _ _ h2⟩
section
variable {X : Cx} {pins : List (Addr × Obj)} {σ : St} {H : Hp} {s : Shared} {a C : Addr} {fs : List (Str × V)}
theorem IsEx.inst (h : IsEx H a C fs) (I : Inv X pins σ H s) : ∃ ox od, PySem.W.InstAt s.heap a ox C od ∧ ∀ f v, fs.lookup f = some v → ∃ u o, od = some o ∧ PySem.W.lookIn f o = some (some u) ∧ RelV v u := by
  rcases h with ⟨rfl, h⟩ | ⟨dx, h, hd⟩
  · obtain ⟨t, e⟩ := exo_at I.hok h
    exact ⟨_, none, ⟨e, rfl, rfl, trivial⟩, fun f v z => by cases z⟩
  · obtain ⟨t, e⟩ := exo_at I.hok h
    obtain ⟨mA, ns, rel⟩ := exd_at I.hok hd
    obtain ⟨od, eo, lk⟩ := lookIn_ns ns
    refine ⟨_, some od, ⟨e, rfl, rfl, eo⟩, fun f v z => ?_⟩
    obtain ⟨u, eu, ru⟩ := RelO.some_of (v := v) (o := mA f) (by rw [← z]; exact rel f)
    exact ⟨u, od, rfl, by rw [lk, eu], ru⟩
/-- e.f -/
def tExF (K : PySem.W.Frag) (f : Str) (te : TE) : TE := fun σ H Q => te σ H fun x H1 => ∃ (a C : Addr) (fs : List (Str × V)) (v : V), x = .ref a ∧ XfC K C ∧ PySem.W.findIn K (.ref C) f = some none ∧ IsEx H1 a C fs ∧ fs.lookup f = some v ∧ Q v H1
theorem pe_exF {e : Expr} {te : TE} {pos : Pos} {f : Str} (he : PE X e te) (hb : attributeBase e f X.env (eval e X.env) = eval e X.env := by rfl) : PE X (.Attribute e f pos) (tExF X.K f te) := by
  refine ⟨fun pins s σ H Q I h => ?_⟩
  refine attr_of hb (thn (he.run pins s σ H _ I h) fun u s1 hh => ?_)
  obtain ⟨x, H1, I1, rx, a, C, fs, v, ex, T, no, is, l, q⟩ := hh
  subst ex
  obtain rfl : u = Value.ref a := rx
  obtain ⟨ox, od, J, look⟩ := is.inst I1
  obtain ⟨w', o, rfl, lo, rw'⟩ := look f v l
  exact HandSPX.exc_get I1.kIn J T.ga T.gg T.exC (PySem.W.findObj_own T.hdC no rfl lo) (handed_of rw') ⟨v, H1, I1.tok _, rw', q⟩
/-- isinstance(e, c) -/
def rIsX (K : PySem.W.Frag) : List V → Hp → VK → Prop := fun xs H Q => ∃ (a D : Addr) (fs : List (Str × V)) (c : V) (cv : Value) (b : Bool), xs = [.ref a, c] ∧ IsEx H a D fs ∧ ExcC K D ∧ (∀ u, RelV c u → u = cv) ∧ PySem.W.kitOne K (.ref D) cv = some b ∧ Q (.bl b) H
theorem call_isX : CallR X (.builtin "isinstance") (rIsX X.K) := by
  intro pins s σ H xs us Q I r h
  obtain ⟨a, D, fs, c, cv, b, rfl, is, C, hcv, e, q⟩ := h
  obtain ⟨u, v, rfl, ru, rv⟩ := vals2 r
  obtain rfl : u = Value.ref a := ru
  obtain rfl := hcv _ rv
  obtain ⟨ox, od, J, _⟩ := is.inst I
  exact PySem.W.kia_one (PySem.W.vx_kit C) I.kIn ⟨ox, od, J⟩ e (fun z => nomatch z) fun tk => ⟨.bl b, H, I.kept (t' := tk) fun _ _ z => z, rfl, q⟩

/-! ### made: C(e, .., k = v, ..), its own __init__ -/
def tMkX (C : Addr) (n m : Nat) (sp : Sp) (gV : List V → List V → List V) (E : XK) (t tk : TA) : TE := fun σ H Q => t σ H fun vs H1 => tk σ H1 fun zs H2 => vs.length = n ∧ zs.length = m ∧
  ∀ a, H2 a = none → sp (gV (.ref a :: vs) zs) (upd H2 a (exo a C none)) (fun v H3 => v = .non ∧ Q (.ref a) H3) E
/-- what the written part says of such a class -/
structure MkXC (K : PySem.W.Frag) (C fI : Addr) : Prop extends OexC K C where
  ini : PySem.W.findIn K (.ref C) "__init__" = some (some (.ref fI))
  tyI : PySem.W.typeIn K (.ref fI) = some (.type "function")
variable {CX : CXT} {k n : Nat} {fI : Addr} {fd : FuncData} {ps ks : List Str} {sp : Sp} {E : XK} {x : Str} {p pos : Pos} {e : Expr} {es : List Expr} {kws : List Keyword} {t tk : TA} {g : List Value → List Value → List Value} {gV : List V → List V → List V} {Q : VK} {us ws : List Value} {vs zs : List V}
theorem run_mkX (T : MkXC X.K C fI) (F : FnOk X.prog X.w X.K X.mg X.base CX k fI fd ps sp) (hr : Room (k + 1) X.A) (hb : KBn X.K fd ps (n + 1) ks g gV) (hx : Passes CX X E) (few : n ≤ 1000)
    (I : Inv X pins σ H s) (r : Vals vs us) (rz : Vals zs ws) (l1 : vs.length = n) (l2 : zs.length = ks.length)
    (h : ∀ a, H a = none → sp (gV (.ref a :: vs) zs) (upd H a (exo a C none)) (fun v H3 => v = .non ∧ Q (.ref a) H3) E) :
    wpAny (model X.prog X.w) X.A (call (.ref C) us (ks.zip ws)) (EP X pins σ Q) X.xe s := by
  obtain ⟨nm, q, N, bs, bm, sn, sub, ab, col, dd, k0, k1, k2, k3, k5, hC, hbm⟩ := T.cls
  obtain ⟨hp, gs, dr, tk, os⟩ := s
  have up : hp.objs.size ≤ hp.objs.size + 1 := Nat.le_succ _
  have hq := h (hp.objs.size + 1) (I.hok.fresh up)
  have len : us.length ≤ sizeLine := by
    rw [← Paired.length r, l1, sizeLine_eq]
    omega
  have keeps : ∀ b o, hp.get? b = some o → (PySem.VX.newH hp C us).get? b = some o := fun b o z => Heap.get?_push_of_some _ (Heap.get?_push_of_some _ z)
  have at_a : (PySem.VX.newH hp C us).get? (hp.objs.size + 1) = some (PySem.HandSPX.excO C hp.objs.size) := by heap_get
  have J : Inv X pins σ (upd H (hp.objs.size + 1) (exo (hp.objs.size + 1) C none)) ⟨PySem.VX.newH hp C us, gs, dr, tk, os⟩ :=
    I.laid (t' := tk) (a := hp.objs.size + 1) (o := exo (hp.objs.size + 1) C none) (h' := PySem.VX.newH hp C us) keeps up (exo_ok at_a)
  have r1 : Vals (V.ref (hp.objs.size + 1) :: vs) (Value.ref (hp.objs.size + 1) :: us) := .cons rfl r
  have r2 := hb.rel r1 rz
  have m1 : (Value.ref (hp.objs.size + 1) :: us).length = n + 1 := r1.length.symm.trans (congrArg Nat.succ l1)
  have m2 : ws.length = ks.length := rz.length.symm.trans l2
  refine wpAny_call (PySem.VX.call_it PySem.F.excBase_ValueError (fun Y => PySem.HandSPX.refsVE_contains Y bm hbm) (I.kIn _ _ hC) len (PySem.W.looks_findIn I.kIn T.ini) (fun o => PySem.W.bind_fn I.kIn o T.tyI)
    (codeAny_mono (F.run _ X.stack _ _ ⟨Value.ref (hp.objs.size + 1) :: us, ks.zip ws⟩ (g (Value.ref (hp.objs.size + 1) :: us) ws) _ _ E (hr.make C us (ks.zip ws)) (J.env0.make C us (ks.zip ws))
      (hb.to _ (Value.ref (hp.objs.size + 1) :: us) ws J.kIn m1 m2) r2 hq) fun r s' hq' => ?_))
  cases r with
  | error er => exact hx pins σ _ _ er s' J hq'
  | ok fl =>
    cases fl with
    | ret u =>
      obtain ⟨v, H', J2, rv, ev, q3⟩ := J.after hq'
      subst ev
      exact ⟨rv, ⟨V.ref (hp.objs.size + 1), H', J2, rfl, q3⟩⟩
    | next => exact hq'.elim
    | brk => exact hq'.elim
    | cont => exact hq'.elim
/-- C(e, ..) -/
theorem pe_mkX (T : MkXC X.K C fI) (F : FnOk X.prog X.w X.K X.mg X.base CX k fI fd ps sp) (hr : Room (k + 1) X.A) (hg : Gl X x) (hm : X.mg x = some (.ref C)) (hb : KBn X.K fd ps (n + 1) [] g gV) (few : n ≤ 1000) (hx : Passes CX X E)
    (ha : PA X (e :: es) t) (hdb : (x == ("__debug__" : Str)) = false := by decide) (he : starEach (e :: es) X.env = (false, eval e X.env) :: starEach es X.env := by rfl) (hpl : (backTo pos (starEach es X.env)).any (·.1) = false := by rfl) :
    PE X (.Call (.Name x p) (e :: es) [] pos) (tMkX C n 0 sp gV E t tNil) := by
  refine ⟨fun pins s σ H Q I h => ?_⟩
  refine wpAny_Call_Name_kw (ld_glob I hg hm ?_ hdb)
  refine PySem.W.callWith_K (h₀ := X.base) I.ok.mod.kin T.kC (thn (ha.run pos pins s σ H _ I h) fun us s1 hh => ?_) he hpl
  obtain ⟨vs, H1, I1, r, l1, l2, q⟩ := hh
  exact ⟨I1.kIn, run_mkX (ks := []) (zs := []) (ws := []) T F hr hb hx few I1 r .nil l1 rfl q⟩
/-- C() -/
theorem pe_mkX0 (T : MkXC X.K C fI) (F : FnOk X.prog X.w X.K X.mg X.base CX k fI fd ps sp) (hr : Room (k + 1) X.A) (hg : Gl X x) (hm : X.mg x = some (.ref C)) (hb : KBn X.K fd ps 1 [] g gV) (hx : Passes CX X E) (hdb : (x == ("__debug__" : Str)) = false := by decide) :
    PE X (.Call (.Name x p) [] [] pos) (tMkX C 0 0 sp gV E tNil tNil) := by
  refine ⟨fun pins s σ H Q I h => ?_⟩
  refine wpAny_Call_Name_kw (ld_glob I hg hm ?_ hdb)
  obtain ⟨l1, l2, q⟩ := h
  exact PySem.W.callWith_K0 I.kIn T.kC (run_mkX (n := 0) (ks := []) (us := []) (vs := []) (zs := []) (ws := []) T F hr hb hx (by decide) I .nil .nil rfl rfl q)
/-- C(k = v, ..) -/
theorem pe_mkXK (T : MkXC X.K C fI) (F : FnOk X.prog X.w X.K X.mg X.base CX k fI fd ps sp) (hr : Room (k + 1) X.A) (hg : Gl X x) (hm : X.mg x = some (.ref C)) (hb : KBn X.K fd ps 1 ks g gV) (hx : Passes CX X E)
    (hkw : PK X kws tk) (hall : (backToKw pos (keywordEach kws X.env)).all (·.1.isSome) = true := by rfl) (hks : (backToKw pos (keywordEach kws X.env)).filterMap (·.1) = ks := by rfl) (hdb : (x == ("__debug__" : Str)) = false := by decide)
    (hpl : ((backTo pos (starEach [] X.env)).any (·.1) || (backToKw pos (keywordEach kws X.env)).any (·.1.isNone)) = false := by rfl) :
    PE X (.Call (.Name x p) [] kws pos) (tMkX C 0 ks.length sp gV E tNil tk) := by
  refine ⟨fun pins s σ H Q I h => ?_⟩
  refine wpAny_Call_Name_kw (ld_glob I hg hm ?_ hdb)
  refine PySem.W.callWith_KW0 (h₀ := X.base) I.ok.mod.kin T.kC hall (thn (hkw.run pos pins s σ H _ I h) fun ws s2 hh => ?_) hpl
  obtain ⟨zs, H2, I2, rz, l1, l2, q2⟩ := hh
  refine ⟨I2.kIn, ?_⟩
  rw [hks]
  exact run_mkX (n := 0) (us := []) (vs := []) T F hr hb hx (by decide) I2 .nil rz rfl l2 q2
end
end L2

set_option maxRecDepth 100000
set_option maxHeartbeats 4000000
/-! The head's facts with one more Bool; own exception classes in it. -/
namespace VH
open PySem PySem.Spec PyProof.Rows L2 He
/-! ### the Hook -/
abbrev AlV : Type := AlD × Bool
def obsV (fa : List Fa) (fn : List DefD) (ex : PySem.W.Frag → Bool) (K : PySem.W.Frag) : AlV := (obsD fa fn K, ex K)
def obsVG (n : Nat) (fa : List Fa) (fn : List DefD) (ex : PySem.W.Frag → Bool) (g : Addr → Option Obj) : AlV := obsV fa fn ex (frG g (asD g n))
def SaysV (fa : List Fa) (fn : List DefD) (ex : PySem.W.Frag → Bool) (K : PySem.W.Frag) : Prop := SaysD fa fn K ∧ ex K = true
def hookV (n : Nat) (fa : List Fa) (fn : List DefD) (ex : PySem.W.Frag → Bool) : PySem.W.Hook where
  α := AlV
  obs := fun s => obsVG n fa fn ex s.heap.get?
  val := fun _ => (valD fn, true)
  says := fun _ h => ∃ K : PySem.W.Frag, K.In h ∧ SaysV fa fn ex K
  of := fun _ _ e => ⟨_, frG_in, congrArg (fun z : AlV => z.1) e, congrArg (fun z : AlV => z.2) e⟩
  keeps := fun _ _ _ ⟨K, hK, c⟩ k => ⟨K, PySem.W.Frag.In.keeps hK k, c⟩
theorem obsVG_eq {n : Nat} {fa : List Fa} {fn : List DefD} {ex : PySem.W.Frag → Bool} {g : Addr → Option Obj} {s : Shared} (h : ∀ a, g a = s.heap.get? a) : obsVG n fa fn ex g = (hookV n fa fn ex).obs s := by
  have e : g = s.heap.get? := funext h
  rw [e]; rfl
/-! ### an own exception class -/
/-- the class at C is over ValueError, perhaps over own ones between -/
def exB (K : PySem.W.Frag) (C : Addr) : Bool := match K.lookup C with
  | some ⟨.type t, _, .cls cd, sl⟩ => decide (t = "type") && (match cd.mro, sl.toList with
    | .ref D :: bm, [_, _, _, _, some (.builtin n), _] => decide (D = C) && (decide (n = "ValueError.__new__") && (!cd.hasDel && (cd.hasDict && PySem.HandSPX.refsVE bm)))
    | _, _ => false)
  | _ => false
theorem exB_ok {K : PySem.W.Frag} {C : Addr} (h : exB K C = true) : ∃ nm q N bs bm sn sub ab col dd k0 k1 k2 k3 k5, K.lookup C = some (excClassObj nm q C N bs bm true sn sub ab col dd k0 k1 k2 k3 k5 "ValueError.__new__") ∧ PySem.HandSPX.refsVE bm = true := by
  unfold exB at h
  split at h
  · rename_i t dd cd sl ho
    obtain ⟨y0, z0⟩ := ba h
    clear h
    have e0 : t = "type" := of_decide_eq_true y0
    split at z0
    · rename_i D bm k0 k1 k2 k3 n k5 hm hs
      obtain ⟨y1, z1⟩ := ba z0
      obtain ⟨y2, z2⟩ := ba z1
      obtain ⟨y3, z3⟩ := ba z2
      obtain ⟨y4, y5⟩ := ba z3
      have e1 : D = C := of_decide_eq_true y1
      have e2 : n = "ValueError.__new__" := of_decide_eq_true y2
      clear z0 z1 z2 z3 y0 y1 y2
      subst e0 e1 e2
      obtain ⟨nm, bs, mro, ns, qn, hd, sn, sub, ab, col, del⟩ := cd
      dsimp only at hm y3 y4
      subst hm y4
      have e3 : del = false := by
        cases del with
        | false => rfl
        | true => cases y3
      subst e3
      have e4 : sl = #[k0, k1, k2, k3, some (.builtin "ValueError.__new__"), k5] := by
        obtain ⟨l⟩ := sl
        simp only at hs
        rw [hs]
      subst e4
      exact ⟨nm, qn, ns, bs, bm, sn, sub, ab, col, dd, k0, k1, k2, k3, k5, ho, y5⟩
    · cases z0
  · cases h
def okO {α : Type} [DecidableEq α] (a b : Option α) : Bool := decide (a = b)
/-- all that an own exception class, with an __init__ of its own, must say; its fields' names -/
def clB (K : PySem.W.Frag) (x : Str) (fs : List Str) : Bool :=
  decide (PySem.W.nsIn K mainGlobals x = some (some (.ref (ga K x)))) && (exB K (ga K x) && (
  decide (PySem.W.findIn K (.ref (ga K x)) "__setattr__" = some (some (.builtin "object.__setattr__"))) && (
  decide (PySem.W.subIn K (.ref (ga K x)) (.type "BaseException") = some true) && (
  decide (PySem.W.typeIn K (.ref (ga K x)) = some (.type "type")) && (
  PySem.W.keepIn K (.ref (ga K x)) && (
  decide (PySem.W.findIn K (.ref (ga K x)) "__init__" = some (some (.ref (ma K (ga K x) "__init__")))) && (
  decide (PySem.W.typeIn K (.ref (ma K (ga K x) "__init__")) = some (.type "function")) && (
  decide (PySem.W.findIn K (.ref (ga K x)) "__getattribute__" = some (some (.builtin "BaseException.__getattribute__"))) && (
  decide (PySem.W.findIn K (.ref (ga K x)) "__getattr__" = some none) && (
  PySem.W.hasDictIn K (ga K x) && (
  decide (PySem.W.findIn K (.ref (ga K x)) "__class__" = some (some (.builtin "object.__class__"))) && (
  decide (PySem.W.mroIn K (ga K x) (.type "object") = some true) && (
  fs.all fun f => decide (PySem.W.findIn K (.ref (ga K x)) f = some none))))))))))))))
structure ClOk (K : PySem.W.Frag) (x : Str) (fs : List Str) : Prop where
  gl : PySem.W.nsIn K mainGlobals x = some (some (.ref (ga K x)))
  mkx : MkXC K (ga K x) (ma K (ga K x) "__init__")
  xf : XfC K (ga K x)
  ec : PySem.W.specialIn K (.builtin "object.__class__") "__get__" = some (some (.builtin "getset_descriptor.__get__")) → PySem.W.takesIn K (.builtin "object.__class__") = some true → ExcC K (ga K x)
  no : ∀ f ∈ fs, PySem.W.findIn K (.ref (ga K x)) f = some none
theorem clB_ok {K : PySem.W.Frag} {x : Str} {fs : List Str} (h : clB K x fs = true) : ClOk K x fs := by
  unfold clB at h
  obtain ⟨g0, h⟩ := ba h
  obtain ⟨g1, h⟩ := ba h
  obtain ⟨g2, h⟩ := ba h
  obtain ⟨g3, h⟩ := ba h
  obtain ⟨g4, h⟩ := ba h
  obtain ⟨g5, h⟩ := ba h
  obtain ⟨g6, h⟩ := ba h
  obtain ⟨g7, h⟩ := ba h
  obtain ⟨g8, h⟩ := ba h
  obtain ⟨g9, h⟩ := ba h
  obtain ⟨g10, h⟩ := ba h
  obtain ⟨g11, h⟩ := ba h
  obtain ⟨g12, h⟩ := ba h
  have d := fun {p : Prop} [Decidable p] (z : decide p = true) => of_decide_eq_true z
  exact ⟨of_decide_eq_true g0, ⟨⟨exB_ok g1, of_decide_eq_true g2, of_decide_eq_true g3, of_decide_eq_true g4, g5⟩, of_decide_eq_true g6, of_decide_eq_true g7⟩,
    ⟨of_decide_eq_true g8, of_decide_eq_true g9, of_decide_eq_true g3, g10⟩,
    fun a b => ⟨of_decide_eq_true g8, of_decide_eq_true g9, of_decide_eq_true g3, g10, of_decide_eq_true g11, a, b, of_decide_eq_true g12⟩,
    fun f hf => of_decide_eq_true (List.all_eq_true.mp h f hf)⟩
/-- what asks the descriptor __class__ -/
def dcB (K : PySem.W.Frag) : Bool := decide (PySem.W.specialIn K (.builtin "object.__class__") "__get__" = some (some (.builtin "getset_descriptor.__get__"))) && decide (PySem.W.takesIn K (.builtin "object.__class__") = some true)
end VH

set_option maxRecDepth 100000
set_option maxHeartbeats 4000000
/-! What a head's Bool says of the written part: tuples of texts, a dict of such, defaults that are objects, own classes with an own ==. -/
namespace VH
open PySem PySem.Spec PyProof.Rows L2 He
/-- written texts -/
def txsB : List Value → List Str → Bool
  | [], [] => true
  | .str x _ :: l, w :: ws => decide (x = w) && txsB l ws
  | _, _ => false
/-- at a: a written tuple of the texts ws -/
def tupB (K : PySem.W.Frag) (a : Addr) (ws : List Str) : Bool := match K.lookup a with
  | some ⟨.type c, _, .seq its _, _⟩ => decide (c = "tuple") && (txsB its.toList ws && decide (its.size ≤ 100))
  | _ => false
theorem txsB_ok : ∀ {l : List Value} {ws : List Str}, txsB l ws = true → Vals (ws.map V.str) l
  | [], [], _ => .nil
  | v :: l, w :: ws, h => by
    cases v with
    | str x t =>
      obtain ⟨h1, h2⟩ := ba (show (decide (x = w) && txsB l ws) = true from h)
      obtain rfl := of_decide_eq_true h1
      exact .cons ⟨t, rfl⟩ (txsB_ok h2)
    | _ => cases h
  | [], _ :: _, h => by cases h
  | v :: _, [], h => by cases v <;> cases h
theorem tupB_ok {K : PySem.W.Frag} {a : Addr} {ws : List Str} (h : tupB K a ws = true) (H : Hp) : SqT K H a (ws.map V.str) := by
  unfold tupB at h
  split at h
  · rename_i c d its n sl e
    obtain ⟨h1, h2⟩ := ba h
    obtain ⟨h2, h3⟩ := ba h2
    obtain rfl := of_decide_eq_true h1
    exact .inr ⟨_, its, _, e, rfl, rfl, Nat.le_trans (of_decide_eq_true h3) (by decide), txsB_ok h2⟩
  · cases h
def tupsB (K : PySem.W.Frag) : List Value → List (List Str) → Bool
  | [], [] => true
  | .ref p :: l, w :: ws => tupB K p w && tupsB K l ws
  | _, _ => false
/-- at a: a written tuple of such tuples -/
def tupTB (K : PySem.W.Frag) (a : Addr) (ws : List (List Str)) : Bool := match K.lookup a with
  | some ⟨.type c, _, .seq its _, _⟩ => decide (c = "tuple") && (tupsB K its.toList ws && decide (its.size ≤ 100))
  | _ => false
/-- the entry k of the written dict x: such a tuple -/
def entB (K : PySem.W.Frag) (x k : Str) (ws : List (List Str)) : Bool := match PySem.W.nsIn K (ga K x) k with
  | some (some (.ref p)) => tupTB K p ws
  | _ => false
theorem tupsB_ok {K : PySem.W.Frag} : ∀ {l : List Value} {ws : List (List Str)}, tupsB K l ws = true → ∃ ps : List Addr, Vals (ps.map V.ref) l ∧ ps.length = ws.length ∧ ∀ (i : Nat) (p : Addr) (w : List Str), ps[i]? = some p → ws[i]? = some w → ∀ H, SqT K H p (w.map V.str)
  | [], [], _ => ⟨[], .nil, rfl, fun i p w h => by simp at h⟩
  | v :: l, w :: ws, h => by
    cases v with
    | ref p =>
      obtain ⟨h1, h2⟩ := ba (show (tupB K p w && tupsB K l ws) = true from h)
      obtain ⟨ps, r1, r2, r3⟩ := tupsB_ok h2
      refine ⟨p :: ps, .cons rfl r1, by simp [r2], fun i q u e1 e2 H => ?_⟩
      match i, e1, e2 with
      | 0, e1, e2 =>
        cases e1
        cases e2
        exact tupB_ok h1 H
      | i + 1, e1, e2 => exact r3 i q u e1 e2 H
    | _ => cases h
  | [], _ :: _, h => by cases h
  | v :: _, [], h => by cases v <;> cases h
def Ent (K : PySem.W.Frag) (x k : Str) (ws : List (List Str)) : Prop := ∃ (p : Addr) (ps : List Addr), PySem.W.nsIn K (ga K x) k = some (some (.ref p)) ∧ (∀ H, SqT K H p (ps.map V.ref)) ∧ ps.length = ws.length ∧
  ∀ (i : Nat) (p : Addr) (w : List Str), ps[i]? = some p → ws[i]? = some w → ∀ H, SqT K H p (w.map V.str)
theorem entB_ok {K : PySem.W.Frag} {x k : Str} {ws : List (List Str)} (h : entB K x k ws = true) : Ent K x k ws := by
  unfold entB at h
  split at h
  · rename_i p e
    unfold tupTB at h
    split at h
    · rename_i c d its n sl e2
      obtain ⟨h1, h2⟩ := ba h
      obtain ⟨h2, h3⟩ := ba h2
      obtain rfl := of_decide_eq_true h1
      obtain ⟨ps, r1, r2, r3⟩ := tupsB_ok h2
      exact ⟨p, ps, e, fun H => .inr ⟨_, its, _, e2, rfl, rfl, Nat.le_trans (of_decide_eq_true h3) (by decide), r1⟩, r2, r3⟩
    · cases h
  · cases h
/-- the keyword default n of the def at f, if it is an object -/
def kwA (f : Str × Option Str) (n : Str) (K : PySem.W.Frag) : Addr := match K.lookup (fAd K f) with
  | some ⟨_, _, .func fd, _⟩ => (match fd.kwdefaults with
    | .ref D => (match PySem.W.nsIn K D n with
      | some (some (.ref a)) => a
      | _ => 0)
    | _ => 0)
  | _ => 0
/-- an own class with an own ==, none of its instances can be called -/
def ownB (K : PySem.W.Frag) (x : Str) : Bool :=
  decide (PySem.W.findIn K (.ref (ga K x)) "__ne__" = some (some (.builtin "object.__ne__"))) && (
  decide (PySem.W.subIn K (.ref (ga K x)) (.type "object") = some true) && (
  decide (PySem.W.kitOne K (.ref (ga K x)) (.ref (ga K x)) = some true) && (
  decide (PySem.W.findIn K (.ref (ga K x)) "__class__" = some (some (.builtin "object.__class__"))) && (
  decide (PySem.W.mroIn K (ga K x) (.type "object") = some true) && (
  (["tuple", "list", "dict", "int", "bool", "str", "NoneType"] : List String).all fun t => decide (PySem.W.kitOne K (.type t) (.ref (ga K x)) = some false) && decide (PySem.W.subIn K (.type t) (.ref (ga K x)) = some false))))))
structure OwnC (K : PySem.W.Frag) (x : Str) : Prop where
  ne : PySem.W.findIn K (.ref (ga K x)) "__ne__" = some (some (.builtin "object.__ne__"))
  ob : PySem.W.subIn K (.ref (ga K x)) (.type "object") = some true
  kk : PySem.W.kitOne K (.ref (ga K x)) (.ref (ga K x)) = some true
  cls : PySem.W.findIn K (.ref (ga K x)) "__class__" = some (some (.builtin "object.__class__"))
  mro : PySem.W.mroIn K (ga K x) (.type "object") = some true
  kt : ∀ t ∈ (["tuple", "list", "dict", "int", "bool", "str", "NoneType"] : List String), PySem.W.kitOne K (.type t) (.ref (ga K x)) = some false ∧ PySem.W.subIn K (.type t) (.ref (ga K x)) = some false
theorem ownB_ok {K : PySem.W.Frag} {x : Str} (h : ownB K x = true) : OwnC K x := by
  unfold ownB at h
  obtain ⟨q1, h⟩ := ba h
  obtain ⟨q2, h⟩ := ba h
  obtain ⟨q3, h⟩ := ba h
  obtain ⟨q4, h⟩ := ba h
  obtain ⟨q5, q6⟩ := ba h
  have d := fun {p : Prop} [Decidable p] (z : decide p = true) => of_decide_eq_true z
  exact ⟨d q1, d q2, d q3, d q4, d q5, fun t ht => ⟨d (ba (List.all_eq_true.mp q6 t ht)).1, d (ba (List.all_eq_true.mp q6 t ht)).2⟩⟩
end VH

set_option maxRecDepth 100000
set_option maxHeartbeats 4000000
/-! A written dict has these keys alone. -/
namespace VH
open PySem PySem.Spec PyProof.Rows L2 He
def keyB (ks : List Str) (e : DictEntry) : Bool := match e.key with
  | .str x _ => ks.contains x
  | _ => false
def keysB (K : PySem.W.Frag) (a : Addr) (ks : List Str) : Bool := match K.lookup a with
  | some ⟨_, _, .dict es _, _⟩ => es.toList.all (keyB ks)
  | _ => false
theorem keysB_ok {K : PySem.W.Frag} {a : Addr} {ks : List Str} (h : keysB K a ks = true) {z : Str} (hz : ks.contains z = false) : PySem.W.nsIn K a z = some none := by
  unfold keysB at h
  unfold PySem.W.nsIn
  split at h
  · rename_i c d es n sl e
    rw [e]
    have all : ∀ x ∈ es.toList, keyB ks x = true := List.all_eq_true.mp h
    have f1 : es.toList.find? (·.key.isStr z) = none := by
      rw [List.find?_eq_none]
      intro x hx hs
      have := all x hx
      unfold keyB at this
      split at this
      · rename_i y t ey
        rw [ey] at hs
        have ez : y = z := by simpa [Value.isStr] using hs
        subst ez
        rw [hz] at this
        cases this
      · cases this
    have f2 : es.toList.any (·.refKey) = false := by
      rw [List.any_eq_false]
      intro x hx
      have := all x hx
      unfold keyB at this
      split at this
      · rename_i y t ey
        unfold DictEntry.refKey
        rw [ey]
        simp
      · cases this
    show (match es.toList.find? (·.key.isStr z) with | some e => some (some e.val) | none => if es.toList.any (·.refKey) then none else some none) = some none
    rw [f1]
    show (if es.toList.any (·.refKey) then none else some none) = some none
    rw [f2]
    rfl
  · cases h
end VH

set_option maxRecDepth 100000
set_option maxHeartbeats 0
namespace K09
open PySem PySem.Spec PyProof.Rows L2 He VH
def top (i : Nat) : Stmt := PySem.Challenge.pw_fillbehind_k09_rollouts.main.body.getD i (.Pass ⟨0, 0, 0, 0⟩)
def ex (K : PySem.W.Frag) : Bool := dcB K && (clB K "NoStatement" [] && (clB K "NoWriter" ["part", "index"] && (clB K "NoFill" ["part"] && (clB K "NoPhase" ["part"] && (clB K "NoRollout" ["part", "index"] && (tupB K (ga K "CHECKS") ["missing", "same old", "same new"] && (tupB K (ga K "READING") ["put", "read", "copy", "same old", "same new"] && (tupB K (ga K "TAKING") ["insert", "input"] && (tupB K (ga K "SAVES") ["last", "first"] && (tupB K (ga K "PROMISES") ["right", "mild", "kept", "once"] && (tupB K (ga K "WAITS") ["done", "drained"] && (entB K "PLACES" "set" [["keep", "input", "read"], ["keep", "none", "now", "read", "copy"]] && (entB K "PLACES" "put" [["none", "now", "read", "copy"]] && (entB K "PLACES" "insert" [["none", "now"]] && (entB K "PLACES" "delete" [] && (keysB K (ga K "PLACES") ["set", "put", "insert", "delete"] && (ownB K "Writer" && (ownB K "Fill" && (ownB K "Phase" && (ownB K "Rollout" && (tupB K (kwA ("Phase", some "__init__") "writers" K) [] && (tupB K (kwA ("Phase", some "__init__") "promises" K) [] && (tupB K (kwA ("Phase", some "__init__") "waits" K) [] && (tupB K (kwA ("Rollout", some "__init__") "back" K) [] && ((!decide ((He.cT K ("law", none)).2 = (He.cT K ("_law_spoilt_right", none)).2)) && (((["Writer", "Fill", "Phase", "Rollout"] : List Str).all fun c => (["Writer", "Fill", "Phase", "Rollout"] : List Str).all fun d => decide (PySem.W.kitOne K (.ref (ga K c)) (.ref (ga K d)) = some (d == c))) && ((["NoStatement", "NoWriter", "NoFill", "NoPhase", "NoRollout"] : List Str).all fun c => (["NoStatement", "NoWriter", "NoFill", "NoPhase", "NoRollout", "FillError"] : List Str).all fun d => decide (PySem.W.exmOne K (.ref (ga K c)) (.ref (ga K d)) = some (d == c || d == "FillError")))))))))))))))))))))))))))))
def names0 : List PySem.Str := ["is_integer", "is_between", "is_word", "are_words", "is_sequence", "is_sized", "is_name", "are_names", "is_plain", "is_statement", "checks_of", "with_check", "has_word", "needs_read", "needs_input", "is_read", "is_behind_read", "step_fits", "is_fill_statement", "wrong_writer", "wrong_phase", "is_way", "wrong_way", "options_where"]
def names1 : List PySem.Str := ["all_options", "writer_options", "possible_checks", "fill_options", "with_option", "rebuilt", "stricter_writer", "stricter_fill", "stricter_phase", "_law_draw", "_law_well", "_law_one", "_law_writer", "_law_checks", "_law_step", "_law_steps", "_law_titles", "_law_filled", "_law_part", "_law_stages", "_law_said", "_law_bent", "_law_made", "_law_parts"]
def names2 : List PySem.Str := ["_law_spoilt", "_law_spoilt_right", "CHECKS", "READING", "TAKING", "SAVES", "PROMISES", "WAITS", "PLACES", "Writer", "Fill", "Phase", "Rollout", "NoStatement", "NoWriter", "NoFill", "NoPhase", "NoRollout", "NoOption", "FillError", "LETTERS"]
def names : List PySem.Str := names0 ++ (names1 ++ (names2))
def fa0 : List He.Fa := [.glo "FillError", .glo "is_integer", .glo "is_between", .glo "is_word", .glo "are_words", .glo "is_sequence", .glo "is_sized", .glo "is_name", .glo "are_names", .glo "is_statement", .glo "checks_of", .glo "has_word", .glo "needs_read", .glo "needs_input", .glo "is_read", .glo "is_behind_read", .glo "step_fits", .glo "is_fill_statement", .glo "wrong_writer", .glo "wrong_phase", .glo "is_way", .glo "wrong_way", .glo "_law_draw", .glo "_law_well"]
def fa1 : List He.Fa := [.glo "_law_one", .glo "_law_writer", .glo "_law_checks", .glo "_law_step", .glo "_law_steps", .glo "_law_titles", .glo "_law_filled", .glo "_law_part", .glo "_law_stages", .glo "_law_said", .glo "_law_bent", .glo "_law_made", .glo "_law_parts", .glo "_law_spoilt", .glo "_law_spoilt_right", .glo "law", .glo "CHECKS", .glo "READING", .glo "TAKING", .glo "SAVES", .glo "PROMISES", .glo "WAITS", .glo "PLACES", .glo "Writer"]
def fa2 : List He.Fa := [.glo "Fill", .glo "Phase", .glo "Rollout", .free "len", .free "int", .free "range", .free "isinstance", .free "tuple", .free "bool", .free "str", .free "list", .free "all", .free "any", .free "zip", .free "set", .free "enumerate", .free "ValueError", .str "LETTERS" "abcdefghijklmnopqrstuvwxyz", .cls "Writer", .noat "Writer" "name", .noat "Writer" "needs_input", .noat "Writer" "steps", .meth "Writer" "__init__", .meth "Writer" "__eq__"]
def fa3 : List He.Fa := [.mkr "Writer", .cls "Fill", .noat "Fill" "again", .noat "Fill" "batch", .noat "Fill" "falls", .noat "Fill" "lock", .noat "Fill" "only_missing", .noat "Fill" "save", .noat "Fill" "statement", .meth "Fill" "__init__", .meth "Fill" "__eq__", .mkr "Fill", .cls "Phase", .noat "Phase" "fills", .noat "Phase" "name", .noat "Phase" "promises", .noat "Phase" "waits", .noat "Phase" "writers", .meth "Phase" "__init__", .meth "Phase" "__eq__", .mkr "Phase", .cls "Rollout", .noat "Rollout" "back", .noat "Rollout" "counts"]
def fa4 : List He.Fa := [.noat "Rollout" "fill", .noat "Rollout" "hands", .noat "Rollout" "keeps", .noat "Rollout" "phases", .noat "Rollout" "workers", .noat "Rollout" "writers", .meth "Rollout" "__init__", .meth "Rollout" "__len__", .meth "Rollout" "__eq__", .mkr "Rollout"]
def fa : List He.Fa := fa0 ++ (fa1 ++ (fa2 ++ (fa3 ++ (fa4))))
def dd (i : Nat) (x : Str) : He.DefD := ⟨(x, none), x, x, defArgs (top i), defBody (top i), defScope (top i), [], []⟩
def dm (i : Nat) (x : Str) (j : Nat) (m q : Str) : He.DefD := ⟨(x, some m), m, q, defArgs (inClass (top i) j), defBody (inClass (top i) j), defScope (inClass (top i) j), [], []⟩
def fn0 : List He.DefD := [dd 10 "is_integer", dd 11 "is_between", dd 12 "is_word", dd 13 "are_words", dd 14 "is_sequence", dd 15 "is_sized", dd 16 "is_name", dd 17 "are_names", dd 24 "is_statement", dd 25 "checks_of", dd 27 "has_word", dd 28 "needs_read", dd 29 "needs_input", dd 34 "is_read", dd 35 "is_behind_read", dd 36 "step_fits", dd 38 "is_fill_statement", dd 41 "wrong_writer", dd 42 "wrong_phase", dd 43 "is_way", dd 44 "wrong_way", dd 57 "_law_draw", dd 58 "_law_well", dd 59 "_law_one"]
def fn1 : List He.DefD := [dd 60 "_law_writer", dd 61 "_law_checks", dd 62 "_law_step", dd 63 "_law_steps", dd 64 "_law_titles", dd 65 "_law_filled", dd 66 "_law_part", dd 67 "_law_stages", dd 68 "_law_said", dd 69 "_law_bent", dd 70 "_law_made", dd 71 "_law_parts", dd 72 "_law_spoilt", dd 73 "_law_spoilt_right", dd 74 "law", dm 2 "NoStatement" 0 "__init__" "NoStatement.__init__", dm 3 "NoWriter" 0 "__init__" "NoWriter.__init__", dm 4 "NoFill" 0 "__init__" "NoFill.__init__", dm 5 "NoPhase" 0 "__init__" "NoPhase.__init__", dm 6 "NoRollout" 0 "__init__" "NoRollout.__init__", dm 37 "Writer" 0 "__init__" "Writer.__init__", dm 37 "Writer" 1 "__eq__" "Writer.__eq__", ⟨("Fill", some "__init__"), "__init__", "Fill.__init__", defArgs (inClass (top 39) 0), defBody (inClass (top 39) 0), defScope (inClass (top 39) 0), [], [("batch", .int 1), ("save", .str "last"), ("lock", .bl false), ("only_missing", .bl false), ("falls", .bl false), ("again", .bl false)]⟩, dm 39 "Fill" 1 "__eq__" "Fill.__eq__"]
def fn2 : List He.DefD := [⟨("Phase", some "__init__"), "__init__", "Phase.__init__", defArgs (inClass (top 40) 0), defBody (inClass (top 40) 0), defScope (inClass (top 40) 0), [], [("writers", .adr (kwA ("Phase", some "__init__") "writers")), ("fills", .bl false), ("promises", .adr (kwA ("Phase", some "__init__") "promises")), ("waits", .adr (kwA ("Phase", some "__init__") "waits"))]⟩, dm 40 "Phase" 1 "__eq__" "Phase.__eq__", ⟨("Rollout", some "__init__"), "__init__", "Rollout.__init__", defArgs (inClass (top 45) 0), defBody (inClass (top 45) 0), defScope (inClass (top 45) 0), [], [("workers", .int 1), ("hands", .int 1), ("back", .adr (kwA ("Rollout", some "__init__") "back"))]⟩, dm 45 "Rollout" 1 "__len__" "Rollout.__len__", dm 45 "Rollout" 2 "__eq__" "Rollout.__eq__"]
def fn : List He.DefD := fn0 ++ (fn1 ++ (fn2))
abbrev R : PySem.W.OpenRow := PySem.W.OpenLaw.row PySem.Challenge.rw_fillbehind_k09_rollouts
/-- the defs whose lambdas are made, the written dicts -/
def tf : List He.Defn := [("law", none), ("_law_spoilt_right", none)]
def ts : List He.Tab := [((fun K => ga K "PLACES"), ["set", "put", "insert", "delete"])]
abbrev hk : PySem.W.Hook := He.hookX 5 fa fn ts tf ex
def ob (s : PySem.W.SharedT) : He.AlX := He.obsX 5 fa fn ts tf ex (HandSHeadRun.getT s)
theorem ob_eq (s : PySem.W.SharedT) : ob s = hk.obs s.abs := He.obsX_eq (HandSHeadRun.getT_eq s)
theorem run1 (w : World) : HandSHeadRun.RunEq R (PySem.W.view R.prog [74]) hk ob 20000 names (w.withFollow "special-get-raises" false) := by
  intro os
  kernel_rfl
theorem run2 (w : World) : HandSHeadRun.RunEq R (PySem.W.view R.prog [74]) hk ob 20000 names (w.withFollow "special-get-raises" true) := by
  intro os
  kernel_rfl
theorem run (w : World) : HandSHeadRun.RunEq R (PySem.W.view R.prog [74]) hk ob 20000 names w := PySem.W.byRow2 "special-get-raises" (P := fun w => HandSHeadRun.RunEq R (PySem.W.view R.prog [74]) hk ob 20000 names w) run1 run2 w
end K09

set_option maxRecDepth 100000
set_option maxHeartbeats 4000000
/-! What every law's draws are made of: a list of three ints. -/
namespace L2
open PySem PySem.Spec PyProof.Rows
/-- two lists that are read, wherever they stand -/
def rCatR (K : PySem.W.Frag) : R2 := fun x y H Q => ∃ l b xs zs, x = .ref l ∧ y = .ref b ∧ SqL K H l xs ∧ SqL K H b zs ∧ xs.length + zs.length ≤ sizeLine ∧ ∀ p, H p = none → Q (.ref p) (upd H p (.lst (xs ++ zs)))
theorem op_catR {X : Cx} : OpR X (binaryOp .Add) (rCatR X.K) := by
  intro pins s σ H x y v u Q I rx ry h
  obtain ⟨l, b, xs, zs, rfl, rfl, a1, a2, few, q⟩ := h
  cases rx
  cases ry
  obtain ⟨i1, r1, ⟨⟨c1, d1, t1, s1⟩, n1, g1, p1, _, q1⟩, _⟩ := I.list a1
  obtain ⟨i2, r2, ⟨⟨c2, d2, t2, s2⟩, n2, g2, p2, _, q2⟩, _⟩ := I.list a2
  simp only at p1 q1 p2 q2
  subst p1 q1 p2 q2
  have ea : i1.toArray ++ i2.toArray = (i1 ++ i2).toArray := by simp
  refine PySem.concat_meets ⟨_, g1, rfl⟩ ⟨_, g2, rfl⟩ noFill_list_add seq_list_add PySem.F.slot_list_add PySem.F.entry_list_add (PySem.F.args_list_add_2 _ _)
    (list_addW l b i1.toArray i2.toArray n1 n2 d1 d2 s1 s2 (by rw [List.size_toArray, List.size_toArray, ← r1.length, ← r2.length]; omega)) ⟨g1, g2, ?_⟩
  rw [ea]
  exact ⟨.ref _, _, I.lnew (t' := s.toks) (r1.append r2) (by rw [List.length_append]; omega), rfl, q _ I.fresh⟩
/-- at a: a well -/
def Well (H : Hp) (a : Addr) : Prop := ∃ c b n : Int, H a = some (.lst [.int c, .int b, .int n])
/-- all but a is as it was -/
def But (a : Addr) (H H' : Hp) : Prop := ∀ b o, b ≠ a → H b = some o → H' b = some o
theorem But.same {a : Addr} {H H1 H' : Hp} (s : Same H H1) (h : But a H1 H') : But a H H' := fun b o n e => h b o n (s b o e)
theorem But.trans {a : Addr} {H H1 H' : Hp} (s : But a H H1) (h : But a H1 H') : But a H H' := fun b o n e => h b o n (s b o n e)
theorem But.upd {a : Addr} {H : Hp} {o : HO} : But a H (upd H a o) := fun b u n e => by rw [upd_ne n]; exact e
theorem But.of {a : Addr} {H H' : Hp} (s : Same H H') : But a H H' := fun b u _ e => s b u e
/-- the draw: an int below much -/
def spDraw : Sp := fun vs H Q _ => ∃ (a : Addr) (m : Int), vs = [.ref a, .int m] ∧ Well H a ∧ 0 < m ∧ m < 1073741824 ∧ ∀ (H' : Hp) (d : Int), 0 ≤ d → d < m → Well H' a → But a H H' → Q (.int d) H'
/-- the well of a number -/
def spWell (K : PySem.W.Frag) : Sp := fun vs H Q _ => ∃ (a : Addr) (ns : List Int) (k : Nat), vs = [.ref a, .int k] ∧ SqL K H a (ns.map V.int) ∧ ns.length ≤ 63 ∧ k ≤ 63 ∧ ∀ (H' : Hp) (p : Addr), H p = none → Well H' p → Same H H' → Q (.ref p) H'
/-- one of a list's items -/
def spOne (K : PySem.W.Frag) : Sp := fun vs H Q _ => ∃ (a l : Addr) (xs : List V), vs = [.ref a, .ref l] ∧ Well H a ∧ l ≠ a ∧ H l = some (.lst xs) ∧ 0 < xs.length ∧ xs.length < 1073741824 ∧ ∀ (H' : Hp) (x : V), x ∈ xs → Well H' a → But a H H' → Q x H'
theorem Same.new {H : Hp} {l : Addr} {o : HO} (n : H l = none) : Same H (upd H l o) := fun b u e => by
  rw [upd_ne (ne_of_none e n)]
  exact e
theorem Same.rd {H H' : Hp} {a : Addr} {u : HO} (e : Same H H') (r : Rd H a u) : Rd H' a u := by
  rcases r with r | ⟨o, r⟩
  · exact .inl (e _ _ r)
  · exact .inr ⟨o, e _ _ r⟩
theorem atI_some {α : Type} {xs : List α} {d : Int} (h0 : 0 ≤ d) (h1 : d < xs.length) : ∃ x, x ∈ xs ∧ atI xs d = some x := by
  obtain ⟨j, rfl⟩ : ∃ j : Nat, d = (j : Int) := ⟨d.toNat, by omega⟩
  have lt : j < xs.length := by omega
  exact ⟨xs[j], List.getElem_mem lt, atI_nat (List.getElem?_eq_getElem lt)⟩
end L2

set_option maxRecDepth 100000
set_option maxHeartbeats 4000000
/-! The promise of an own exception's __init__ that keeps its arguments as fields; making one. -/
namespace L2
open PySem PySem.Spec PyProof.Rows He
/-- .. new: its dict was not there in H -/
def IsExN (H H' : Hp) (a C : Addr) (fs : List (Str × V)) : Prop := (fs = [] ∧ H' a = some (exo a C none)) ∨ ∃ dx, H dx = none ∧ H' a = some (exo a C (some dx)) ∧ H' dx = some (exd dx fs)
theorem IsExN.is {H H' : Hp} {a C : Addr} {fs : List (Str × V)} (h : IsExN H H' a C fs) : IsEx H' a C fs := by
  rcases h with h | ⟨dx, _, h⟩
  · exact .inl h
  · exact .inr ⟨dx, h⟩
def spIni (K : PySem.W.Frag) (names : List Str) : Sp := fun vs H Q _ => ∃ (a C : Addr) (ws : List V), vs = .ref a :: ws ∧ ws.length = names.length ∧ OexC K C ∧ (∀ f ∈ names, PySem.W.findIn K (.ref C) f = some none) ∧
  H a = some (exo a C none) ∧ ∀ H', But a H H' → IsExN H H' a C (names.zip ws).reverse → Q .non H'
theorem ini1 {K : PySem.W.Frag} {f : Str} {vs : List V} {H : Hp} {Q : VK} {E : XK} (h : spIni K [f] vs H Q E) : ∃ (a C : Addr) (v : V), vs = [.ref a, v] ∧ OexC K C ∧ PySem.W.findIn K (.ref C) f = some none ∧ H a = some (exo a C none) ∧
    ∀ dx, H dx = none → dx ≠ a → Q .non (upd (upd H dx (exd dx [(f, v)])) a (exo a C (some dx))) := by
  obtain ⟨a, C, ws, rfl, l, T, no, ha, k⟩ := h
  match ws, l with
  | [v], _ =>
    refine ⟨a, C, v, rfl, T, no f (by simp), ha, fun dx n ne => k _ (fun b o hb e => ?_) (.inr ⟨dx, n, upd_same, ?_⟩)⟩
    · rw [upd_ne hb, upd_ne (ne_of_none e n)]
      exact e
    · rw [upd_ne ne]
      exact upd_same
theorem ini2 {K : PySem.W.Frag} {f g : Str} {vs : List V} {H : Hp} {Q : VK} {E : XK} (h : spIni K [f, g] vs H Q E) : ∃ (a C : Addr) (v u : V), vs = [.ref a, v, u] ∧ OexC K C ∧ PySem.W.findIn K (.ref C) f = some none ∧ PySem.W.findIn K (.ref C) g = some none ∧ H a = some (exo a C none) ∧
    ∀ dx, H dx = none → dx ≠ a → Q .non (upd (upd (upd H dx (exd dx [(f, v)])) a (exo a C (some dx))) dx (exd dx [(g, u), (f, v)])) := by
  obtain ⟨a, C, ws, rfl, l, T, no, ha, k⟩ := h
  match ws, l with
  | [v, u], _ =>
    refine ⟨a, C, v, u, rfl, T, no f (by simp), no g (by simp), ha, fun dx n ne => k _ (fun b o hb e => ?_) (.inr ⟨dx, n, ?_, upd_same⟩)⟩
    · rw [upd_ne (ne_of_none e n), upd_ne hb, upd_ne (ne_of_none e n)]
      exact e
    · rw [upd_ne (Ne.symm ne)]
      exact upd_same
theorem ini0 {K : PySem.W.Frag} {vs : List V} {H : Hp} {Q : VK} {E : XK} (h : spIni K [] vs H Q E) : ∃ a : Addr, vs = [.ref a] ∧ Q .non H := by
  obtain ⟨a, C, ws, rfl, l, T, no, ha, k⟩ := h
  match ws, l with
  | [], _ => exact ⟨a, rfl, k H (fun _ _ _ e => e) (.inl ⟨rfl, ha⟩)⟩
/-- how it binds by place -/
theorem KBn.of {K : PySem.W.Frag} {fd : FuncData} {ps : List Str} {n : Nat} (b : Binds K fd ps []) (l : ps.length = n) : KBn K fd ps n [] (fun us _ => us) (fun vs _ => vs) :=
  ⟨fun s us ws X l1 _ => by
    have h := b s us X (by rw [List.append_nil, l1, l])
    rw [List.append_nil] at h
    exact h, fun r _ => r⟩
/-- .. by name, without defaults -/
theorem FunD.byName {K : PySem.W.Frag} {x qual : Str} {params : Arguments} {body : List Stmt} {scope : Scope} {kws : List (Str × V)} {f : Addr} {fd : FuncData} {ps : List Str} (F : FunD K x qual params body scope [] kws f fd) (n : Nat) (ks : List Str) (g : {α : Type} → List α → List α → List α)
    (rel : ∀ {vs zs : List V} {us ws : List Value}, Vals vs us → Vals zs ws → Vals (g vs zs) (g us ws))
    (h : ∀ (kV doc pm : Value) (an : Option Addr) (cdv ct : Value) (us ws : List Value), us.length = n → ws.length = ks.length → bindArgs (PySem.W.fnOf x qual params body scope .none kV doc pm an cdv ct) ⟨us, ks.zip ws⟩ = pure (ps.zip (g us ws))) :
    KBn K fd ps n ks (fun us ws => g us ws) (fun vs zs => g vs zs) := by
  obtain ⟨oc, od, dV, kV, doc, pm, an, cdv, ct, osl, rfl, lk, hcd, hD, hK⟩ := F.ex
  rcases hD with ⟨_, rfl⟩ | ⟨e, _⟩
  · exact ⟨fun s us ws X l1 l2 => .of_eq (h kV doc pm an cdv ct us ws l1 l2), rel⟩
  · exact absurd rfl e
/-- the reading of C(..) -/
theorem read_mkX {K K' : PySem.W.Frag} {x : Str} {names : List Str} (T : VH.ClOk K x names) {H : Hp} {R : VK} {as : List V} {a : Addr} (ws : List V) (n : H a = none) (eK : K' = K) (l : ws.length = names.length) (hg : as = .ref a :: ws)
    (k : ∀ H', Same H H' → IsEx H' a (ga K x) (names.zip ws).reverse → R .non H') : spIni K' names as (upd H a (exo a (ga K x) none)) R E0 := by
  subst eK
  exact ⟨a, ga K' x, ws, hg, l, T.mkx.toOexC, T.no, upd_same, fun H' bt is => k H' (fun b o e => bt b o (ne_of_none e n) (by
    rw [upd_ne (ne_of_none e n)]
    exact e)) is.is⟩
/-- the reading of raise C(..): Q of the class, the dict, the heap with it -/
theorem read_raise {K K' : PySem.W.Frag} {x : Str} {names : List Str} (T : VH.ClOk K x names) {H : Hp} {Q : XK} {as : List V} {a : Addr} (ws : List V) (n : H a = none) (eK : K' = K) (l : ws.length = names.length) (ne : ws ≠ []) (hg : as = .ref a :: ws)
    (k : ∀ (d : Addr) (H' : Hp), H d = none → Same H H' → H' d = some (.xd (names.zip ws).reverse) → Q (.ref (ga K x)) (some d) H') :
    spIni K' names as (upd H a (exo a (ga K x) none)) (fun v H2 => v = .non ∧ ∃ (d : Addr) (fs : List (Str × V)), H2 a = some (exo a (ga K x) (some d)) ∧ H2 d = some (exd d fs) ∧ H d = none ∧ Q (.ref (ga K x)) (some d) (upd (del H2 a) d (.xd fs))) (fun _ _ _ => False) := by
  subst eK
  refine ⟨a, ga K' x, ws, hg, l, T.mkx.toOexC, T.no, upd_same, fun H' bt is => ⟨rfl, ?_⟩⟩
  rcases is with ⟨z, _⟩ | ⟨dx, nd, e1, e2⟩
  · exfalso
    match ws, names, l, ne with
    | w :: ws, f :: fs, _, _ => simp at z
    | w :: ws, [], l, _ => simp at l
    | [], _, _, ne => exact ne rfl
  · have da : dx ≠ a := fun z => by
      rw [z, upd_same] at nd
      cases nd
    have nd' : H dx = none := by
      rw [upd_ne da] at nd
      exact nd
    refine ⟨dx, _, e1, e2, nd', k dx _ nd' (fun b o e => ?_) upd_same⟩
    have ba' : b ≠ a := ne_of_none e n
    rw [upd_ne (ne_of_none e nd'), del_ne ba']
    exact bt b o ba' (by
      rw [upd_ne ba']
      exact e)
/-- a row of such objects: their classes' names, their fields -/
def ExL (K : PySem.W.Frag) (H : Hp) : List V → List (Str × List (Str × V)) → Prop
  | [], [] => True
  | v :: vs, c :: cs => (∃ a, v = .ref a ∧ IsEx H a (ga K c.1) c.2) ∧ ExL K H vs cs
  | _, _ => False
theorem ExL.same {K : PySem.W.Frag} {H H' : Hp} (e : Same H H') : ∀ {vs : List V} {cs : List (Str × List (Str × V))}, ExL K H vs cs → ExL K H' vs cs
  | [], [], _ => trivial
  | [], _ :: _, h => h.elim
  | _ :: _, [], h => h.elim
  | v :: vs, c :: cs, ⟨⟨a, z, is⟩, h⟩ => ⟨⟨a, z, is.same e⟩, ExL.same e h⟩
theorem ExL.snoc {K : PySem.W.Frag} {H H' : Hp} {a : Addr} {c : Str × List (Str × V)} (e : Same H H') (is : IsEx H' a (ga K c.1) c.2) : ∀ {vs : List V} {cs : List (Str × List (Str × V))}, ExL K H vs cs → ExL K H' (vs ++ [.ref a]) (cs ++ [c])
  | [], [], _ => ⟨⟨a, rfl, is⟩, trivial⟩
  | [], _ :: _, h => h.elim
  | _ :: _, [], h => h.elim
  | v :: vs, d :: cs, ⟨⟨b, z, is'⟩, h⟩ => ⟨⟨b, z, is'.same e⟩, ExL.snoc e is h⟩
theorem ExL.len {K : PySem.W.Frag} {H : Hp} : ∀ {vs : List V} {cs : List (Str × List (Str × V))}, ExL K H vs cs → vs.length = cs.length
  | [], [], _ => rfl
  | [], _ :: _, h => h.elim
  | _ :: _, [], h => h.elim
  | v :: vs, c :: cs, ⟨_, h⟩ => congrArg Nat.succ h.len
theorem ExL.at {K : PySem.W.Frag} {H : Hp} : ∀ {vs : List V} {cs : List (Str × List (Str × V))} {i : Nat} {c : Str × List (Str × V)}, ExL K H vs cs → cs[i]? = some c → ∃ a, vs[i]? = some (.ref a) ∧ IsEx H a (ga K c.1) c.2
  | [], [], _, _, _, e => by cases e
  | [], _ :: _, _, _, h, _ => h.elim
  | _ :: _, [], _, _, h, _ => h.elim
  | v :: vs, d :: cs, 0, c, ⟨⟨a, z, is⟩, _⟩, e => by
    have e' : d = c := Option.some.inj e
    rw [← e']
    exact ⟨a, congrArg some z, is⟩
  | v :: vs, d :: cs, i + 1, c, ⟨_, h⟩, e => ExL.at h (i := i) e
end L2

set_option maxRecDepth 100000
set_option maxHeartbeats 4000000
/-! A comparison by an own method, of an own instance with anything of a known type; whatever the method answers. -/
namespace L2
open PySem PySem.Spec PyProof.Rows
section
variable {X : Cx} {CX : CXT} {C g : Addr} {n : Nat} {sp : Sp} {E : XK} {op : CmpOp}
/-- x op y: x an instance of C, whose method for op has the promise sp; y's type is C, or known to be none below it -/
def rOwnA (K : PySem.W.Frag) (C : Addr) (sp : Sp) (E : XK) (X : Cx) : R2 := fun x y H Q =>
  ∃ (a : Addr) (t : Value), x = .ref a ∧ StX.InsC X H a C ∧ TyX K H y t ∧ PySem.W.notFirst K C t = true ∧ sp [x, y] H Q E
theorem op_ownA (hop : ∀ a b : Value, compareOp op a b = richCompare op a b)
    (hf : PySem.W.findIn X.K (.ref C) (cmpInfo op).2.1 = some (some (.ref g))) (fn : PySem.W.isFn X.K (.ref g) = true)
    (F : FnR X.prog X.w X.K X.mg X.base CX n g sp) (hr : Room n X.A) (hx : Passes CX X E) : OpR X (compareOp op) (rOwnA X.K C sp E X) := by
  intro pins s σ H x y v u Q I rx ry h
  obtain ⟨a, t, rfl, ia, ty, nf, q⟩ := h
  cases (show v = Value.ref a from rx)
  rw [hop]
  obtain ⟨ox, od, at_, _⟩ := StX.insC_at I ia
  obtain ⟨P, kx, hp, _⟩ := kit_of I ry ty
  obtain ⟨m, fr⟩ := I.fr
  have kin : X.K.In s.heap := PySem.W.Frag.In.keeps I.ok.mod.kin fr.keep
  have un : X.A.units < cLine := by
    have := hr.un
    omega
  refine PySem.W.cmp_K un fr I.ok.mod.kin at_ (kx.ty _ _ kin hp) nf hf fn (wpAny_call ?_)
  refine codeAny_mono (SlX.run_at F hr I.env0 hx I (.cons rx (.cons ry .nil)) q) fun r s' z => ?_
  split at z
  · obtain ⟨w', H', I', rw', q'⟩ := z
    exact SlX.cmpback rw' ⟨w', H', I', rw', q'⟩
  · exact z.elim
  · exact z
end
end L2

set_option maxRecDepth 100000
set_option maxHeartbeats 4000000
/-! != of an own instance whose class has an own __eq__ and object's __ne__, with anything of a known type. -/
namespace PySem.W
open PySem PySem.Spec PySem.Calls PyProof.Rows
section
variable {prog : Program} {w : World} {A : Around} {E : Value → Shared → Prop} {s : Shared} {K : Frag} {x C g : Addr} {ox : Obj} {od : Option Obj} {b : Value}
theorem ifBound_ne {Q : Option Value → Shared → Prop} (hu : A.units + 1 < cLine) (X : K.In s.heap) (I : InstAt s.heap x ox C od)
    (hn : findIn K (.ref C) "__ne__" = some (some (.builtin "object.__ne__"))) (ho : subIn K (.ref C) (.type "object") = some true)
    (he : findIn K (.ref C) "__eq__" = some (some (.ref g))) (fn : isFn K (.ref g) = true)
    (h : wpAny (model prog w) A.in1 (call (.ref g) [.ref x, b]) (fun v s' => ∃ c, v = .bool c ∧ Q (some (.bool !c)) s') E s) :
    wpAny (model prog w) A (callSpecialIfBound? (.ref x) "__ne__" [b]) Q E s := by
  have fin : wpAny (model prog w) A (call (.builtin "object.__ne__") ([.ref x] ++ [b]) >>= fun r => pure (some r)) Q E s := by
    refine wpAny_bind (wpAny_call (codeAny_call_builtin PySem.F.slot_object_ne.plain PySem.F.entry_object_ne ?_))
    have sub : Looks (model prog w) s.heap (isInstance (.ref x) (.type "object")) true := (I.type (M := model prog w)).andThen (looks_subIn X ho)
    refine check_slot (n := "__ne__") (owner := "object") (by decide +kernel) (by decide +kernel) sub (PySem.F.args_object_ne_2 (.ref x) b) ?_
    unfold Builtin.«object.__ne__»
    refine wpAny_bind (wpAny_of_eq (a := ((Value.ref x : Value), [b])) (by
      first | rfl | (simp only [slotArgs]; rfl)) ?_)
    refine wpAny_bind (wpAny_cRoomFor hu ?_)
    refine wpAny_bind (ifBound_K X I he fn (wpAny_mono h (fun v s' z => ?_) (fun _ _ z => z)))
    obtain ⟨c, rfl, q⟩ := z
    show wpAny _ _ (truthy (.bool c) >>= fun t => ret (.bool !t)) _ _ _
    refine wpAny_bind (wpAny_of_eq (a := c) (by rfl) ?_)
    exact wpAny_pure (wpAny_pure q)
  unfold callSpecialIfBound? bindSpecialIfBound? specialOf
  refine wpAny_holding (wpAny_bind (wpAny_bind (wpAny_bind ((I.type (M := model prog w)).here ((looks_findIn (M := model prog w) X hn).here ?_)))))
  refine wpAny_bind (wpAny_askSetting ?_)
  have bnd : bindSpecial (Value.builtin "object.__ne__") (.ref x) = pure (Value.builtin "object.__ne__", [.ref x]) := PySem.F.slot_object_ne.bind _
  show wpAny _ _ (if _ then _ else _) _ _ _
  rw [bnd]
  refine wpAny_ite ?_
  split
  · exact wpAny_bind (wpAny_pure (wpAny_pure fin))
  · exact wpAny_tryCatch (wpAny_bind (wpAny_pure (wpAny_pure fin)))
end
end PySem.W
namespace PySem.W
open PySem PySem.Spec PySem.Calls PyProof.Rows
section
variable {prog : Program} {w : World} {A : Around} {E : Value → Shared → Prop} {s : Shared} {K : Frag} {x C g : Addr} {ox : Obj} {od : Option Obj} {b tb : Value}
theorem cmp_ne {Q : Value → Shared → Prop} (hu : A.units + 1 < cLine) (X : K.In s.heap) (I : InstAt s.heap x ox C od)
    (hb : Looks (model prog w) s.heap (typeOf b) tb) (nf : notFirst K C tb = true)
    (hn : findIn K (.ref C) "__ne__" = some (some (.builtin "object.__ne__"))) (ho : subIn K (.ref C) (.type "object") = some true)
    (he : findIn K (.ref C) "__eq__" = some (some (.ref g))) (fn : isFn K (.ref g) = true)
    (h : wpAny (model prog w) A.in1 (call (.ref g) [.ref x, b]) (fun v s' => ∃ c, v = .bool c ∧ Q (.bool !c) s') E s) :
    wpAny (model prog w) A (richCompare .NotEq (.ref x) b) Q E s := by
  have one : wpAny (model prog w) A (tryCompare (.ref x) "__ne__" b) (fun r s' => ∃ v, r = some v ∧ Q v s') E s := by
    unfold tryCompare
    refine wpAny_bind (ifBound_ne hu X I hn ho he fn (wpAny_mono h (fun v s' z => ?_) (fun _ _ z => z)))
    obtain ⟨c, rfl, q⟩ := z
    exact ⟨c, rfl, wpAny_pure ⟨_, rfl, q⟩⟩
  unfold richCompare
  refine wpAny_holding (wpAny_bind (wpAny_cRoomFor (by omega) ?_))
  refine wpAny_bind ((I.type (M := model prog w)).here (wpAny_bind (hb.here ?_)))
  unfold notFirst at nf
  refine wpAny_ite ?_
  split
  · rename_i ne
    have sb : subIn K tb (.ref C) = some false := by
      rcases Bool.or_eq_true_iff.mp nf with q | q
      · have e : tb = .ref C := eq_of_beq q
        subst e
        simp at ne
      · exact eq_of_beq q
    refine wpAny_bind ((looks_subIn X sb).here ?_)
    show wpAny _ _ (tryCompare (.ref x) "__ne__" b >>= _) _ _ _
    exact wpAny_bind (wpAny_mono one (fun r s' z => by
      obtain ⟨v, rfl, q⟩ := z
      exact wpAny_pure q) (fun _ _ z => z))
  · refine wpAny_bind (wpAny_pure ?_)
    show wpAny _ _ (tryCompare (.ref x) "__ne__" b >>= _) _ _ _
    exact wpAny_bind (wpAny_mono one (fun r s' z => by
      obtain ⟨v, rfl, q⟩ := z
      exact wpAny_pure q) (fun _ _ z => z))
end
end PySem.W
namespace L2
open PySem PySem.Spec PyProof.Rows
section
variable {X : Cx} {CX : CXT} {C g : Addr} {n : Nat} {sp : Sp} {E : XK}
/-- x != y by C's own __eq__ -/
def rNeA (K : PySem.W.Frag) (C : Addr) (sp : Sp) (E : XK) (X : Cx) : R2 := fun x y H Q =>
  ∃ (a : Addr) (t : Value), x = .ref a ∧ StX.InsC X H a C ∧ TyX K H y t ∧ PySem.W.notFirst K C t = true ∧
    sp [x, y] H (fun z H' => ∃ c : Bool, z = .bl c ∧ Q (.bl !c) H') E
theorem op_neA (hn : PySem.W.findIn X.K (.ref C) "__ne__" = some (some (.builtin "object.__ne__"))) (ho : PySem.W.subIn X.K (.ref C) (.type "object") = some true)
    (he : PySem.W.findIn X.K (.ref C) "__eq__" = some (some (.ref g))) (fn : PySem.W.isFn X.K (.ref g) = true)
    (F : FnR X.prog X.w X.K X.mg X.base CX n g sp) (hr : Room (n + 1) X.A) (hx : Passes CX X E) : OpR X (compareOp .NotEq) (rNeA X.K C sp E X) := by
  intro pins s σ H x y v u Q I rx ry h
  obtain ⟨a, t, rfl, ia, ty, nf, q⟩ := h
  cases (show v = Value.ref a from rx)
  show wpAny _ _ (richCompare .NotEq _ _) _ _ _
  obtain ⟨ox, od, at_, _⟩ := StX.insC_at I ia
  obtain ⟨P, kx, hp, _⟩ := kit_of I ry ty
  obtain ⟨m, fr⟩ := I.fr
  have kin : X.K.In s.heap := PySem.W.Frag.In.keeps I.ok.mod.kin fr.keep
  have un : X.A.units + 1 < cLine := by
    have := hr.un
    omega
  have sub : Sub X n X.A.in1 := Sub.in1 ⟨hr, rfl⟩
  have en : Env0 X.prog X.w X.K X.mg X.base X.A.in1 X.stack s H := by
    have e := I.env0
    exact ⟨e.frames, e.mod, e.bs, e.bsz, e.funs, e.frf, e.hok, e.bare⟩
  refine PySem.W.cmp_ne un kin at_ (kx.ty _ _ kin hp) nf hn ho he fn (wpAny_call ?_)
  refine codeAny_mono (SlX.run_at F sub.room en hx I (.cons rx (.cons ry .nil)) q) fun r s' z => ?_
  split at z
  · obtain ⟨w', H', I', rw', c, rfl, q'⟩ := z
    exact ⟨c, rw', .bl !c, H', I', rfl, q'⟩
  · exact z.elim
  · exact z
end
end L2

set_option maxRecDepth 100000
set_option maxHeartbeats 4000000
namespace L2
open PySem PySem.Spec PyProof.Rows He
/-- the reading of raise C(..) -/
theorem read_rz {K K' : PySem.W.Frag} {x : Str} {names : List Str} (T : VH.ClOk K x names) {H : Hp} {R : VK} {as : List V} {a : Addr} (ws : List V) (n : H a = none) (eK : K' = K) (l : ws.length = names.length) (ne : ws ≠ []) (hg : as = .ref a :: ws)
    (k : ∀ (d : Addr) (H2 : Hp), H2 a = some (exo a (ga K x) (some d)) → H2 d = some (exd d (names.zip ws).reverse) → H d = none → Same H (upd (del H2 a) d (.xd (names.zip ws).reverse)) → R .non H2) :
    spIni K' names as (upd H a (exo a (ga K x) none)) R (fun _ _ _ => False) := by
  subst eK
  refine ⟨a, ga K' x, ws, hg, l, T.mkx.toOexC, T.no, upd_same, fun H' bt is => ?_⟩
  rcases is with ⟨z, _⟩ | ⟨dx, nd, e1, e2⟩
  · exfalso
    match ws, names, l, ne with
    | w :: ws, f :: fs, _, _ => simp at z
    | w :: ws, [], l, _ => simp at l
    | [], _, _, ne => exact ne rfl
  · have da : dx ≠ a := fun z => by
      rw [z, upd_same] at nd
      cases nd
    have nd' : H dx = none := by
      rw [upd_ne da] at nd
      exact nd
    refine k dx H' e1 e2 nd' (fun b o e => ?_)
    have ba' : b ≠ a := ne_of_none e n
    rw [upd_ne (ne_of_none e nd'), del_ne ba']
    exact bt b o ba' (by
      rw [upd_ne ba']
      exact e)
end L2

set_option maxRecDepth 100000
set_option maxHeartbeats 4000000
namespace K09
open PySem PySem.Spec PyProof.Rows L2 He VH
abbrev FnP (K : PySem.W.Frag) (x : Str) (st : Stmt) (f : Addr) (fd : FuncData) : Prop := FunD K x x (defArgs st) (defBody st) (defScope st) [] [] f fd
abbrev FnM (K : PySem.W.Frag) (m q : Str) (i j : Nat) (f : Addr) (fd : FuncData) : Prop := FunD K m q (defArgs (inClass (top i) j)) (defBody (inClass (top i) j)) (defScope (inClass (top i) j)) [] [] f fd
/-- what the written part says -/
structure Txt (K : PySem.W.Frag) (mg : Str → Option Value) (w : World) : Prop where
  x_NoStatement : ClOk K "NoStatement" []
  m_NoStatement : mg "NoStatement" = some (.ref (ga K "NoStatement"))
  x_NoWriter : ClOk K "NoWriter" ["part", "index"]
  m_NoWriter : mg "NoWriter" = some (.ref (ga K "NoWriter"))
  x_NoFill : ClOk K "NoFill" ["part"]
  m_NoFill : mg "NoFill" = some (.ref (ga K "NoFill"))
  x_NoPhase : ClOk K "NoPhase" ["part"]
  m_NoPhase : mg "NoPhase" = some (.ref (ga K "NoPhase"))
  x_NoRollout : ClOk K "NoRollout" ["part", "index"]
  m_NoRollout : mg "NoRollout" = some (.ref (ga K "NoRollout"))
  t_CHECKS : ∀ H, SqT K H (ga K "CHECKS") ((["missing", "same old", "same new"] : List Str).map V.str)
  t_READING : ∀ H, SqT K H (ga K "READING") ((["put", "read", "copy", "same old", "same new"] : List Str).map V.str)
  t_TAKING : ∀ H, SqT K H (ga K "TAKING") ((["insert", "input"] : List Str).map V.str)
  t_SAVES : ∀ H, SqT K H (ga K "SAVES") ((["last", "first"] : List Str).map V.str)
  t_PROMISES : ∀ H, SqT K H (ga K "PROMISES") ((["right", "mild", "kept", "once"] : List Str).map V.str)
  t_WAITS : ∀ H, SqT K H (ga K "WAITS") ((["done", "drained"] : List Str).map V.str)
  d_PLACES_set : Ent K "PLACES" "set" [["keep", "input", "read"], ["keep", "none", "now", "read", "copy"]]
  d_PLACES_put : Ent K "PLACES" "put" [["none", "now", "read", "copy"]]
  d_PLACES_insert : Ent K "PLACES" "insert" [["none", "now"]]
  d_PLACES_delete : Ent K "PLACES" "delete" []
  ks_PLACES : ∀ z : Str, (["set", "put", "insert", "delete"] : List Str).contains z = false → PySem.W.nsIn K (ga K "PLACES") z = some none
  o_Writer : OwnC K "Writer"
  o_Fill : OwnC K "Fill"
  o_Phase : OwnC K "Phase"
  o_Rollout : OwnC K "Rollout"
  k_Phase_writers : ∀ H, SqT K H (kwA ("Phase", some "__init__") "writers" K) []
  k_Phase_promises : ∀ H, SqT K H (kwA ("Phase", some "__init__") "promises" K) []
  k_Phase_waits : ∀ H, SqT K H (kwA ("Phase", some "__init__") "waits" K) []
  k_Rollout_back : ∀ H, SqT K H (kwA ("Rollout", some "__init__") "back" K) []
  tne : (He.cT K ("law", none)).2 ≠ (He.cT K ("_law_spoilt_right", none)).2
  kn : ∀ c ∈ (["Writer", "Fill", "Phase", "Rollout"] : List Str), ∀ d ∈ (["Writer", "Fill", "Phase", "Rollout"] : List Str), PySem.W.kitOne K (.ref (ga K c)) (.ref (ga K d)) = some (d == c)
  xm : ∀ c ∈ (["NoStatement", "NoWriter", "NoFill", "NoPhase", "NoRollout"] : List Str), ∀ d ∈ (["NoStatement", "NoWriter", "NoFill", "NoPhase", "NoRollout", "FillError"] : List Str), PySem.W.exmOne K (.ref (ga K c)) (.ref (ga K d)) = some (d == c || d == "FillError")
  dc1 : PySem.W.specialIn K (.builtin "object.__class__") "__get__" = some (some (.builtin "getset_descriptor.__get__"))
  dc2 : PySem.W.takesIn K (.builtin "object.__class__") = some true
  dict_PLACES : ∃ es n, KDict K w (ga K "PLACES") es n
  m_FillError : mg "FillError" = some (.ref (ga K "FillError"))
  m_is_integer : mg "is_integer" = some (.ref (ga K "is_integer"))
  m_is_between : mg "is_between" = some (.ref (ga K "is_between"))
  m_is_word : mg "is_word" = some (.ref (ga K "is_word"))
  m_are_words : mg "are_words" = some (.ref (ga K "are_words"))
  m_is_sequence : mg "is_sequence" = some (.ref (ga K "is_sequence"))
  m_is_sized : mg "is_sized" = some (.ref (ga K "is_sized"))
  m_is_name : mg "is_name" = some (.ref (ga K "is_name"))
  m_are_names : mg "are_names" = some (.ref (ga K "are_names"))
  m_is_statement : mg "is_statement" = some (.ref (ga K "is_statement"))
  m_checks_of : mg "checks_of" = some (.ref (ga K "checks_of"))
  m_has_word : mg "has_word" = some (.ref (ga K "has_word"))
  m_needs_read : mg "needs_read" = some (.ref (ga K "needs_read"))
  m_needs_input : mg "needs_input" = some (.ref (ga K "needs_input"))
  m_is_read : mg "is_read" = some (.ref (ga K "is_read"))
  m_is_behind_read : mg "is_behind_read" = some (.ref (ga K "is_behind_read"))
  m_step_fits : mg "step_fits" = some (.ref (ga K "step_fits"))
  m_is_fill_statement : mg "is_fill_statement" = some (.ref (ga K "is_fill_statement"))
  m_wrong_writer : mg "wrong_writer" = some (.ref (ga K "wrong_writer"))
  m_wrong_phase : mg "wrong_phase" = some (.ref (ga K "wrong_phase"))
  m_is_way : mg "is_way" = some (.ref (ga K "is_way"))
  m_wrong_way : mg "wrong_way" = some (.ref (ga K "wrong_way"))
  m_l_draw : mg "_law_draw" = some (.ref (ga K "_law_draw"))
  m_l_well : mg "_law_well" = some (.ref (ga K "_law_well"))
  m_l_one : mg "_law_one" = some (.ref (ga K "_law_one"))
  m_l_writer : mg "_law_writer" = some (.ref (ga K "_law_writer"))
  m_l_checks : mg "_law_checks" = some (.ref (ga K "_law_checks"))
  m_l_step : mg "_law_step" = some (.ref (ga K "_law_step"))
  m_l_steps : mg "_law_steps" = some (.ref (ga K "_law_steps"))
  m_l_titles : mg "_law_titles" = some (.ref (ga K "_law_titles"))
  m_l_filled : mg "_law_filled" = some (.ref (ga K "_law_filled"))
  m_l_part : mg "_law_part" = some (.ref (ga K "_law_part"))
  m_l_stages : mg "_law_stages" = some (.ref (ga K "_law_stages"))
  m_l_said : mg "_law_said" = some (.ref (ga K "_law_said"))
  m_l_bent : mg "_law_bent" = some (.ref (ga K "_law_bent"))
  m_l_made : mg "_law_made" = some (.ref (ga K "_law_made"))
  m_l_parts : mg "_law_parts" = some (.ref (ga K "_law_parts"))
  m_l_spoilt : mg "_law_spoilt" = some (.ref (ga K "_law_spoilt"))
  m_l_spoilt_right : mg "_law_spoilt_right" = some (.ref (ga K "_law_spoilt_right"))
  m_law : mg "law" = some (.ref (ga K "law"))
  m_CHECKS : mg "CHECKS" = some (.ref (ga K "CHECKS"))
  m_READING : mg "READING" = some (.ref (ga K "READING"))
  m_TAKING : mg "TAKING" = some (.ref (ga K "TAKING"))
  m_SAVES : mg "SAVES" = some (.ref (ga K "SAVES"))
  m_PROMISES : mg "PROMISES" = some (.ref (ga K "PROMISES"))
  m_WAITS : mg "WAITS" = some (.ref (ga K "WAITS"))
  m_PLACES : mg "PLACES" = some (.ref (ga K "PLACES"))
  m_Writer : mg "Writer" = some (.ref (ga K "Writer"))
  m_Fill : mg "Fill" = some (.ref (ga K "Fill"))
  m_Phase : mg "Phase" = some (.ref (ga K "Phase"))
  m_Rollout : mg "Rollout" = some (.ref (ga K "Rollout"))
  g_len : mg "len" = none
  g_int : mg "int" = none
  g_range : mg "range" = none
  g_isinstance : mg "isinstance" = none
  g_tuple : mg "tuple" = none
  g_bool : mg "bool" = none
  g_str : mg "str" = none
  g_list : mg "list" = none
  g_all : mg "all" = none
  g_any : mg "any" = none
  g_zip : mg "zip" = none
  g_set : mg "set" = none
  g_enumerate : mg "enumerate" = none
  g_ValueError : mg "ValueError" = none
  s_LETTERS : ∃ t, mg "LETTERS" = some (.str "abcdefghijklmnopqrstuvwxyz" t)
  c_Writer : Cls K (ga K "Writer")
  n_Writer_name : PySem.W.findIn K (.ref (ga K "Writer")) "name" = some none
  n_Writer_needs_input : PySem.W.findIn K (.ref (ga K "Writer")) "needs_input" = some none
  n_Writer_steps : PySem.W.findIn K (.ref (ga K "Writer")) "steps" = some none
  h_Writer_init : Meth K (ga K "Writer") "__init__" (ma K (ga K "Writer") "__init__")
  h_Writer_eq : Meth K (ga K "Writer") "__eq__" (ma K (ga K "Writer") "__eq__")
  mk_Writer : Mk K (ga K "Writer") (ma K (ga K "Writer") "__init__")
  c_Fill : Cls K (ga K "Fill")
  n_Fill_again : PySem.W.findIn K (.ref (ga K "Fill")) "again" = some none
  n_Fill_batch : PySem.W.findIn K (.ref (ga K "Fill")) "batch" = some none
  n_Fill_falls : PySem.W.findIn K (.ref (ga K "Fill")) "falls" = some none
  n_Fill_lock : PySem.W.findIn K (.ref (ga K "Fill")) "lock" = some none
  n_Fill_only_missing : PySem.W.findIn K (.ref (ga K "Fill")) "only_missing" = some none
  n_Fill_save : PySem.W.findIn K (.ref (ga K "Fill")) "save" = some none
  n_Fill_statement : PySem.W.findIn K (.ref (ga K "Fill")) "statement" = some none
  h_Fill_init : Meth K (ga K "Fill") "__init__" (ma K (ga K "Fill") "__init__")
  h_Fill_eq : Meth K (ga K "Fill") "__eq__" (ma K (ga K "Fill") "__eq__")
  mk_Fill : Mk K (ga K "Fill") (ma K (ga K "Fill") "__init__")
  c_Phase : Cls K (ga K "Phase")
  n_Phase_fills : PySem.W.findIn K (.ref (ga K "Phase")) "fills" = some none
  n_Phase_name : PySem.W.findIn K (.ref (ga K "Phase")) "name" = some none
  n_Phase_promises : PySem.W.findIn K (.ref (ga K "Phase")) "promises" = some none
  n_Phase_waits : PySem.W.findIn K (.ref (ga K "Phase")) "waits" = some none
  n_Phase_writers : PySem.W.findIn K (.ref (ga K "Phase")) "writers" = some none
  h_Phase_init : Meth K (ga K "Phase") "__init__" (ma K (ga K "Phase") "__init__")
  h_Phase_eq : Meth K (ga K "Phase") "__eq__" (ma K (ga K "Phase") "__eq__")
  mk_Phase : Mk K (ga K "Phase") (ma K (ga K "Phase") "__init__")
  c_Rollout : Cls K (ga K "Rollout")
  n_Rollout_back : PySem.W.findIn K (.ref (ga K "Rollout")) "back" = some none
  n_Rollout_counts : PySem.W.findIn K (.ref (ga K "Rollout")) "counts" = some none
  n_Rollout_fill : PySem.W.findIn K (.ref (ga K "Rollout")) "fill" = some none
  n_Rollout_hands : PySem.W.findIn K (.ref (ga K "Rollout")) "hands" = some none
  n_Rollout_keeps : PySem.W.findIn K (.ref (ga K "Rollout")) "keeps" = some none
  n_Rollout_phases : PySem.W.findIn K (.ref (ga K "Rollout")) "phases" = some none
  n_Rollout_workers : PySem.W.findIn K (.ref (ga K "Rollout")) "workers" = some none
  n_Rollout_writers : PySem.W.findIn K (.ref (ga K "Rollout")) "writers" = some none
  h_Rollout_init : Meth K (ga K "Rollout") "__init__" (ma K (ga K "Rollout") "__init__")
  h_Rollout_len : Meth K (ga K "Rollout") "__len__" (ma K (ga K "Rollout") "__len__")
  h_Rollout_eq : Meth K (ga K "Rollout") "__eq__" (ma K (ga K "Rollout") "__eq__")
  mk_Rollout : Mk K (ga K "Rollout") (ma K (ga K "Rollout") "__init__")
theorem txt_of {w : World} {K : PySem.W.Frag} {h : Heap} {mg : Str → Option Value} (X : K.In h) (G : h.Ns mainGlobals mg) (cx : He.SaysX fa fn ts tf ex w h K) : Txt K mg w := by
  have g : SaysD fa fn K := cx.t.d
  have e := cx.more
  unfold ex at e
  obtain ⟨e0, z0⟩ := ba e
  obtain ⟨e1, z1⟩ := ba z0
  obtain ⟨e2, z2⟩ := ba z1
  obtain ⟨e3, z3⟩ := ba z2
  obtain ⟨e4, z4⟩ := ba z3
  obtain ⟨e5, z5⟩ := ba z4
  obtain ⟨e6, z6⟩ := ba z5
  obtain ⟨e7, z7⟩ := ba z6
  obtain ⟨e8, z8⟩ := ba z7
  obtain ⟨e9, z9⟩ := ba z8
  obtain ⟨e10, z10⟩ := ba z9
  obtain ⟨e11, z11⟩ := ba z10
  obtain ⟨e12, z12⟩ := ba z11
  obtain ⟨e13, z13⟩ := ba z12
  obtain ⟨e14, z14⟩ := ba z13
  obtain ⟨e15, z15⟩ := ba z14
  obtain ⟨e16, z16⟩ := ba z15
  obtain ⟨e17, z17⟩ := ba z16
  obtain ⟨e18, z18⟩ := ba z17
  obtain ⟨e19, z19⟩ := ba z18
  obtain ⟨e20, z20⟩ := ba z19
  obtain ⟨e21, z21⟩ := ba z20
  obtain ⟨e22, z22⟩ := ba z21
  obtain ⟨e23, z23⟩ := ba z22
  obtain ⟨e24, z24⟩ := ba z23
  obtain ⟨e25, z25⟩ := ba z24
  obtain ⟨e26, z26⟩ := ba z25
  unfold dcB at e0
  obtain ⟨q1, q2⟩ := ba e0
  exact { x_NoStatement := clB_ok e1, m_NoStatement := PySem.W.mg_of X G (clB_ok e1).gl, x_NoWriter := clB_ok e2, m_NoWriter := PySem.W.mg_of X G (clB_ok e2).gl, x_NoFill := clB_ok e3, m_NoFill := PySem.W.mg_of X G (clB_ok e3).gl, x_NoPhase := clB_ok e4, m_NoPhase := PySem.W.mg_of X G (clB_ok e4).gl, x_NoRollout := clB_ok e5, m_NoRollout := PySem.W.mg_of X G (clB_ok e5).gl, t_CHECKS := tupB_ok e6, t_READING := tupB_ok e7, t_TAKING := tupB_ok e8, t_SAVES := tupB_ok e9, t_PROMISES := tupB_ok e10, t_WAITS := tupB_ok e11, d_PLACES_set := entB_ok e12, d_PLACES_put := entB_ok e13, d_PLACES_insert := entB_ok e14, d_PLACES_delete := entB_ok e15, ks_PLACES := fun _ h => keysB_ok e16 h, o_Writer := ownB_ok e17, o_Fill := ownB_ok e18, o_Phase := ownB_ok e19, o_Rollout := ownB_ok e20, k_Phase_writers := tupB_ok (ws := []) e21, k_Phase_promises := tupB_ok (ws := []) e22, k_Phase_waits := tupB_ok (ws := []) e23, k_Rollout_back := tupB_ok (ws := []) e24, tne := (fun z => by have z2 := e25; rw [decide_eq_true z] at z2; cases z2), kn := fun c hc x hx => of_decide_eq_true (List.all_eq_true.mp (List.all_eq_true.mp e26 c hc) x hx), xm := fun c hc x hx => of_decide_eq_true (List.all_eq_true.mp (List.all_eq_true.mp z26 c hc) x hx), dc1 := of_decide_eq_true q1, dc2 := of_decide_eq_true q2, dict_PLACES := cx.t.tab 0, m_FillError := glo_ok X G (g.fact 0 (f := .glo "FillError") rfl), m_is_integer := glo_ok X G (g.fact 1 (f := .glo "is_integer") rfl), m_is_between := glo_ok X G (g.fact 2 (f := .glo "is_between") rfl), m_is_word := glo_ok X G (g.fact 3 (f := .glo "is_word") rfl), m_are_words := glo_ok X G (g.fact 4 (f := .glo "are_words") rfl), m_is_sequence := glo_ok X G (g.fact 5 (f := .glo "is_sequence") rfl), m_is_sized := glo_ok X G (g.fact 6 (f := .glo "is_sized") rfl), m_is_name := glo_ok X G (g.fact 7 (f := .glo "is_name") rfl), m_are_names := glo_ok X G (g.fact 8 (f := .glo "are_names") rfl), m_is_statement := glo_ok X G (g.fact 9 (f := .glo "is_statement") rfl), m_checks_of := glo_ok X G (g.fact 10 (f := .glo "checks_of") rfl), m_has_word := glo_ok X G (g.fact 11 (f := .glo "has_word") rfl), m_needs_read := glo_ok X G (g.fact 12 (f := .glo "needs_read") rfl), m_needs_input := glo_ok X G (g.fact 13 (f := .glo "needs_input") rfl), m_is_read := glo_ok X G (g.fact 14 (f := .glo "is_read") rfl), m_is_behind_read := glo_ok X G (g.fact 15 (f := .glo "is_behind_read") rfl), m_step_fits := glo_ok X G (g.fact 16 (f := .glo "step_fits") rfl), m_is_fill_statement := glo_ok X G (g.fact 17 (f := .glo "is_fill_statement") rfl), m_wrong_writer := glo_ok X G (g.fact 18 (f := .glo "wrong_writer") rfl), m_wrong_phase := glo_ok X G (g.fact 19 (f := .glo "wrong_phase") rfl), m_is_way := glo_ok X G (g.fact 20 (f := .glo "is_way") rfl), m_wrong_way := glo_ok X G (g.fact 21 (f := .glo "wrong_way") rfl), m_l_draw := glo_ok X G (g.fact 22 (f := .glo "_law_draw") rfl), m_l_well := glo_ok X G (g.fact 23 (f := .glo "_law_well") rfl), m_l_one := glo_ok X G (g.fact 24 (f := .glo "_law_one") rfl), m_l_writer := glo_ok X G (g.fact 25 (f := .glo "_law_writer") rfl), m_l_checks := glo_ok X G (g.fact 26 (f := .glo "_law_checks") rfl), m_l_step := glo_ok X G (g.fact 27 (f := .glo "_law_step") rfl), m_l_steps := glo_ok X G (g.fact 28 (f := .glo "_law_steps") rfl), m_l_titles := glo_ok X G (g.fact 29 (f := .glo "_law_titles") rfl), m_l_filled := glo_ok X G (g.fact 30 (f := .glo "_law_filled") rfl), m_l_part := glo_ok X G (g.fact 31 (f := .glo "_law_part") rfl), m_l_stages := glo_ok X G (g.fact 32 (f := .glo "_law_stages") rfl), m_l_said := glo_ok X G (g.fact 33 (f := .glo "_law_said") rfl), m_l_bent := glo_ok X G (g.fact 34 (f := .glo "_law_bent") rfl), m_l_made := glo_ok X G (g.fact 35 (f := .glo "_law_made") rfl), m_l_parts := glo_ok X G (g.fact 36 (f := .glo "_law_parts") rfl), m_l_spoilt := glo_ok X G (g.fact 37 (f := .glo "_law_spoilt") rfl), m_l_spoilt_right := glo_ok X G (g.fact 38 (f := .glo "_law_spoilt_right") rfl), m_law := glo_ok X G (g.fact 39 (f := .glo "law") rfl), m_CHECKS := glo_ok X G (g.fact 40 (f := .glo "CHECKS") rfl), m_READING := glo_ok X G (g.fact 41 (f := .glo "READING") rfl), m_TAKING := glo_ok X G (g.fact 42 (f := .glo "TAKING") rfl), m_SAVES := glo_ok X G (g.fact 43 (f := .glo "SAVES") rfl), m_PROMISES := glo_ok X G (g.fact 44 (f := .glo "PROMISES") rfl), m_WAITS := glo_ok X G (g.fact 45 (f := .glo "WAITS") rfl), m_PLACES := glo_ok X G (g.fact 46 (f := .glo "PLACES") rfl), m_Writer := glo_ok X G (g.fact 47 (f := .glo "Writer") rfl), m_Fill := glo_ok X G (g.fact 48 (f := .glo "Fill") rfl), m_Phase := glo_ok X G (g.fact 49 (f := .glo "Phase") rfl), m_Rollout := glo_ok X G (g.fact 50 (f := .glo "Rollout") rfl), g_len := free_ok X G (g.fact 51 (f := .free "len") rfl), g_int := free_ok X G (g.fact 52 (f := .free "int") rfl), g_range := free_ok X G (g.fact 53 (f := .free "range") rfl), g_isinstance := free_ok X G (g.fact 54 (f := .free "isinstance") rfl), g_tuple := free_ok X G (g.fact 55 (f := .free "tuple") rfl), g_bool := free_ok X G (g.fact 56 (f := .free "bool") rfl), g_str := free_ok X G (g.fact 57 (f := .free "str") rfl), g_list := free_ok X G (g.fact 58 (f := .free "list") rfl), g_all := free_ok X G (g.fact 59 (f := .free "all") rfl), g_any := free_ok X G (g.fact 60 (f := .free "any") rfl), g_zip := free_ok X G (g.fact 61 (f := .free "zip") rfl), g_set := free_ok X G (g.fact 62 (f := .free "set") rfl), g_enumerate := free_ok X G (g.fact 63 (f := .free "enumerate") rfl), g_ValueError := free_ok X G (g.fact 64 (f := .free "ValueError") rfl), s_LETTERS := str_ok X G (g.fact 65 (f := .str "LETTERS" "abcdefghijklmnopqrstuvwxyz") rfl), c_Writer := cls_ok (g.fact 66 (f := .cls "Writer") rfl), n_Writer_name := noat_ok (g.fact 67 (f := .noat "Writer" "name") rfl), n_Writer_needs_input := noat_ok (g.fact 68 (f := .noat "Writer" "needs_input") rfl), n_Writer_steps := noat_ok (g.fact 69 (f := .noat "Writer" "steps") rfl), h_Writer_init := meth_ok (g.fact 70 (f := .meth "Writer" "__init__") rfl), h_Writer_eq := meth_ok (g.fact 71 (f := .meth "Writer" "__eq__") rfl), mk_Writer := mkr_ok (g.fact 72 (f := .mkr "Writer") rfl), c_Fill := cls_ok (g.fact 73 (f := .cls "Fill") rfl), n_Fill_again := noat_ok (g.fact 74 (f := .noat "Fill" "again") rfl), n_Fill_batch := noat_ok (g.fact 75 (f := .noat "Fill" "batch") rfl), n_Fill_falls := noat_ok (g.fact 76 (f := .noat "Fill" "falls") rfl), n_Fill_lock := noat_ok (g.fact 77 (f := .noat "Fill" "lock") rfl), n_Fill_only_missing := noat_ok (g.fact 78 (f := .noat "Fill" "only_missing") rfl), n_Fill_save := noat_ok (g.fact 79 (f := .noat "Fill" "save") rfl), n_Fill_statement := noat_ok (g.fact 80 (f := .noat "Fill" "statement") rfl), h_Fill_init := meth_ok (g.fact 81 (f := .meth "Fill" "__init__") rfl), h_Fill_eq := meth_ok (g.fact 82 (f := .meth "Fill" "__eq__") rfl), mk_Fill := mkr_ok (g.fact 83 (f := .mkr "Fill") rfl), c_Phase := cls_ok (g.fact 84 (f := .cls "Phase") rfl), n_Phase_fills := noat_ok (g.fact 85 (f := .noat "Phase" "fills") rfl), n_Phase_name := noat_ok (g.fact 86 (f := .noat "Phase" "name") rfl), n_Phase_promises := noat_ok (g.fact 87 (f := .noat "Phase" "promises") rfl), n_Phase_waits := noat_ok (g.fact 88 (f := .noat "Phase" "waits") rfl), n_Phase_writers := noat_ok (g.fact 89 (f := .noat "Phase" "writers") rfl), h_Phase_init := meth_ok (g.fact 90 (f := .meth "Phase" "__init__") rfl), h_Phase_eq := meth_ok (g.fact 91 (f := .meth "Phase" "__eq__") rfl), mk_Phase := mkr_ok (g.fact 92 (f := .mkr "Phase") rfl), c_Rollout := cls_ok (g.fact 93 (f := .cls "Rollout") rfl), n_Rollout_back := noat_ok (g.fact 94 (f := .noat "Rollout" "back") rfl), n_Rollout_counts := noat_ok (g.fact 95 (f := .noat "Rollout" "counts") rfl), n_Rollout_fill := noat_ok (g.fact 96 (f := .noat "Rollout" "fill") rfl), n_Rollout_hands := noat_ok (g.fact 97 (f := .noat "Rollout" "hands") rfl), n_Rollout_keeps := noat_ok (g.fact 98 (f := .noat "Rollout" "keeps") rfl), n_Rollout_phases := noat_ok (g.fact 99 (f := .noat "Rollout" "phases") rfl), n_Rollout_workers := noat_ok (g.fact 100 (f := .noat "Rollout" "workers") rfl), n_Rollout_writers := noat_ok (g.fact 101 (f := .noat "Rollout" "writers") rfl), h_Rollout_init := meth_ok (g.fact 102 (f := .meth "Rollout" "__init__") rfl), h_Rollout_len := meth_ok (g.fact 103 (f := .meth "Rollout" "__len__") rfl), h_Rollout_eq := meth_ok (g.fact 104 (f := .meth "Rollout" "__eq__") rfl), mk_Rollout := mkr_ok (g.fact 105 (f := .mkr "Rollout") rfl) }
/-- all defs and methods -/
structure Fns (K : PySem.W.Frag) : Prop where
  f_is_integer : ∃ fd, FnP K "is_integer" (top 10) (ga K "is_integer") fd
  f_is_between : ∃ fd, FnP K "is_between" (top 11) (ga K "is_between") fd
  f_is_word : ∃ fd, FnP K "is_word" (top 12) (ga K "is_word") fd
  f_are_words : ∃ fd, FnP K "are_words" (top 13) (ga K "are_words") fd
  f_is_sequence : ∃ fd, FnP K "is_sequence" (top 14) (ga K "is_sequence") fd
  f_is_sized : ∃ fd, FnP K "is_sized" (top 15) (ga K "is_sized") fd
  f_is_name : ∃ fd, FnP K "is_name" (top 16) (ga K "is_name") fd
  f_are_names : ∃ fd, FnP K "are_names" (top 17) (ga K "are_names") fd
  f_is_statement : ∃ fd, FnP K "is_statement" (top 24) (ga K "is_statement") fd
  f_checks_of : ∃ fd, FnP K "checks_of" (top 25) (ga K "checks_of") fd
  f_has_word : ∃ fd, FnP K "has_word" (top 27) (ga K "has_word") fd
  f_needs_read : ∃ fd, FnP K "needs_read" (top 28) (ga K "needs_read") fd
  f_needs_input : ∃ fd, FnP K "needs_input" (top 29) (ga K "needs_input") fd
  f_is_read : ∃ fd, FnP K "is_read" (top 34) (ga K "is_read") fd
  f_is_behind_read : ∃ fd, FnP K "is_behind_read" (top 35) (ga K "is_behind_read") fd
  f_step_fits : ∃ fd, FnP K "step_fits" (top 36) (ga K "step_fits") fd
  f_is_fill_statement : ∃ fd, FnP K "is_fill_statement" (top 38) (ga K "is_fill_statement") fd
  f_wrong_writer : ∃ fd, FnP K "wrong_writer" (top 41) (ga K "wrong_writer") fd
  f_wrong_phase : ∃ fd, FnP K "wrong_phase" (top 42) (ga K "wrong_phase") fd
  f_is_way : ∃ fd, FnP K "is_way" (top 43) (ga K "is_way") fd
  f_wrong_way : ∃ fd, FnP K "wrong_way" (top 44) (ga K "wrong_way") fd
  f_l_draw : ∃ fd, FnP K "_law_draw" (top 57) (ga K "_law_draw") fd
  f_l_well : ∃ fd, FnP K "_law_well" (top 58) (ga K "_law_well") fd
  f_l_one : ∃ fd, FnP K "_law_one" (top 59) (ga K "_law_one") fd
  f_l_writer : ∃ fd, FnP K "_law_writer" (top 60) (ga K "_law_writer") fd
  f_l_checks : ∃ fd, FnP K "_law_checks" (top 61) (ga K "_law_checks") fd
  f_l_step : ∃ fd, FnP K "_law_step" (top 62) (ga K "_law_step") fd
  f_l_steps : ∃ fd, FnP K "_law_steps" (top 63) (ga K "_law_steps") fd
  f_l_titles : ∃ fd, FnP K "_law_titles" (top 64) (ga K "_law_titles") fd
  f_l_filled : ∃ fd, FnP K "_law_filled" (top 65) (ga K "_law_filled") fd
  f_l_part : ∃ fd, FnP K "_law_part" (top 66) (ga K "_law_part") fd
  f_l_stages : ∃ fd, FnP K "_law_stages" (top 67) (ga K "_law_stages") fd
  f_l_said : ∃ fd, FnP K "_law_said" (top 68) (ga K "_law_said") fd
  f_l_bent : ∃ fd, FnP K "_law_bent" (top 69) (ga K "_law_bent") fd
  f_l_made : ∃ fd, FnP K "_law_made" (top 70) (ga K "_law_made") fd
  f_l_parts : ∃ fd, FnP K "_law_parts" (top 71) (ga K "_law_parts") fd
  f_l_spoilt : ∃ fd, FnP K "_law_spoilt" (top 72) (ga K "_law_spoilt") fd
  f_l_spoilt_right : ∃ fd, FnP K "_law_spoilt_right" (top 73) (ga K "_law_spoilt_right") fd
  f_law : ∃ fd, FnP K "law" (top 74) (ga K "law") fd
  f_NoStatement_init : ∃ fd, FnM K "__init__" "NoStatement.__init__" 2 0 (ma K (ga K "NoStatement") "__init__") fd
  f_NoWriter_init : ∃ fd, FnM K "__init__" "NoWriter.__init__" 3 0 (ma K (ga K "NoWriter") "__init__") fd
  f_NoFill_init : ∃ fd, FnM K "__init__" "NoFill.__init__" 4 0 (ma K (ga K "NoFill") "__init__") fd
  f_NoPhase_init : ∃ fd, FnM K "__init__" "NoPhase.__init__" 5 0 (ma K (ga K "NoPhase") "__init__") fd
  f_NoRollout_init : ∃ fd, FnM K "__init__" "NoRollout.__init__" 6 0 (ma K (ga K "NoRollout") "__init__") fd
  f_Writer_init : ∃ fd, FnM K "__init__" "Writer.__init__" 37 0 (ma K (ga K "Writer") "__init__") fd
  f_Writer_eq : ∃ fd, FnM K "__eq__" "Writer.__eq__" 37 1 (ma K (ga K "Writer") "__eq__") fd
  f_Fill_init : ∃ fd, FunD K "__init__" "Fill.__init__" (defArgs (inClass (top 39) 0)) (defBody (inClass (top 39) 0)) (defScope (inClass (top 39) 0)) (([] : List He.Dv).map (He.Dv.v K)) (([("batch", .int 1), ("save", .str "last"), ("lock", .bl false), ("only_missing", .bl false), ("falls", .bl false), ("again", .bl false)] : List (Str × He.Dv)).map fun q => (q.1, He.Dv.v K q.2)) (ma K (ga K "Fill") "__init__") fd
  f_Fill_eq : ∃ fd, FnM K "__eq__" "Fill.__eq__" 39 1 (ma K (ga K "Fill") "__eq__") fd
  f_Phase_init : ∃ fd, FunD K "__init__" "Phase.__init__" (defArgs (inClass (top 40) 0)) (defBody (inClass (top 40) 0)) (defScope (inClass (top 40) 0)) (([] : List He.Dv).map (He.Dv.v K)) (([("writers", .adr (kwA ("Phase", some "__init__") "writers")), ("fills", .bl false), ("promises", .adr (kwA ("Phase", some "__init__") "promises")), ("waits", .adr (kwA ("Phase", some "__init__") "waits"))] : List (Str × He.Dv)).map fun q => (q.1, He.Dv.v K q.2)) (ma K (ga K "Phase") "__init__") fd
  f_Phase_eq : ∃ fd, FnM K "__eq__" "Phase.__eq__" 40 1 (ma K (ga K "Phase") "__eq__") fd
  f_Rollout_init : ∃ fd, FunD K "__init__" "Rollout.__init__" (defArgs (inClass (top 45) 0)) (defBody (inClass (top 45) 0)) (defScope (inClass (top 45) 0)) (([] : List He.Dv).map (He.Dv.v K)) (([("workers", .int 1), ("hands", .int 1), ("back", .adr (kwA ("Rollout", some "__init__") "back"))] : List (Str × He.Dv)).map fun q => (q.1, He.Dv.v K q.2)) (ma K (ga K "Rollout") "__init__") fd
  f_Rollout_len : ∃ fd, FnM K "__len__" "Rollout.__len__" 45 1 (ma K (ga K "Rollout") "__len__") fd
  f_Rollout_eq : ∃ fd, FnM K "__eq__" "Rollout.__eq__" 45 2 (ma K (ga K "Rollout") "__eq__") fd
theorem fns_of {K : PySem.W.Frag} (g : SaysD fa fn K) : Fns K := by
  have a0 := g.def_ 0 (d := dd 10 "is_integer") rfl
  have a1 := g.def_ 1 (d := dd 11 "is_between") rfl
  have a2 := g.def_ 2 (d := dd 12 "is_word") rfl
  have a3 := g.def_ 3 (d := dd 13 "are_words") rfl
  have a4 := g.def_ 4 (d := dd 14 "is_sequence") rfl
  have a5 := g.def_ 5 (d := dd 15 "is_sized") rfl
  have a6 := g.def_ 6 (d := dd 16 "is_name") rfl
  have a7 := g.def_ 7 (d := dd 17 "are_names") rfl
  have a8 := g.def_ 8 (d := dd 24 "is_statement") rfl
  have a9 := g.def_ 9 (d := dd 25 "checks_of") rfl
  have a10 := g.def_ 10 (d := dd 27 "has_word") rfl
  have a11 := g.def_ 11 (d := dd 28 "needs_read") rfl
  have a12 := g.def_ 12 (d := dd 29 "needs_input") rfl
  have a13 := g.def_ 13 (d := dd 34 "is_read") rfl
  have a14 := g.def_ 14 (d := dd 35 "is_behind_read") rfl
  have a15 := g.def_ 15 (d := dd 36 "step_fits") rfl
  have a16 := g.def_ 16 (d := dd 38 "is_fill_statement") rfl
  have a17 := g.def_ 17 (d := dd 41 "wrong_writer") rfl
  have a18 := g.def_ 18 (d := dd 42 "wrong_phase") rfl
  have a19 := g.def_ 19 (d := dd 43 "is_way") rfl
  have a20 := g.def_ 20 (d := dd 44 "wrong_way") rfl
  have a21 := g.def_ 21 (d := dd 57 "_law_draw") rfl
  have a22 := g.def_ 22 (d := dd 58 "_law_well") rfl
  have a23 := g.def_ 23 (d := dd 59 "_law_one") rfl
  have a24 := g.def_ 24 (d := dd 60 "_law_writer") rfl
  have a25 := g.def_ 25 (d := dd 61 "_law_checks") rfl
  have a26 := g.def_ 26 (d := dd 62 "_law_step") rfl
  have a27 := g.def_ 27 (d := dd 63 "_law_steps") rfl
  have a28 := g.def_ 28 (d := dd 64 "_law_titles") rfl
  have a29 := g.def_ 29 (d := dd 65 "_law_filled") rfl
  have a30 := g.def_ 30 (d := dd 66 "_law_part") rfl
  have a31 := g.def_ 31 (d := dd 67 "_law_stages") rfl
  have a32 := g.def_ 32 (d := dd 68 "_law_said") rfl
  have a33 := g.def_ 33 (d := dd 69 "_law_bent") rfl
  have a34 := g.def_ 34 (d := dd 70 "_law_made") rfl
  have a35 := g.def_ 35 (d := dd 71 "_law_parts") rfl
  have a36 := g.def_ 36 (d := dd 72 "_law_spoilt") rfl
  have a37 := g.def_ 37 (d := dd 73 "_law_spoilt_right") rfl
  have a38 := g.def_ 38 (d := dd 74 "law") rfl
  have a39 := g.def_ 39 (d := dm 2 "NoStatement" 0 "__init__" "NoStatement.__init__") rfl
  have a40 := g.def_ 40 (d := dm 3 "NoWriter" 0 "__init__" "NoWriter.__init__") rfl
  have a41 := g.def_ 41 (d := dm 4 "NoFill" 0 "__init__" "NoFill.__init__") rfl
  have a42 := g.def_ 42 (d := dm 5 "NoPhase" 0 "__init__" "NoPhase.__init__") rfl
  have a43 := g.def_ 43 (d := dm 6 "NoRollout" 0 "__init__" "NoRollout.__init__") rfl
  have a44 := g.def_ 44 (d := dm 37 "Writer" 0 "__init__" "Writer.__init__") rfl
  have a45 := g.def_ 45 (d := dm 37 "Writer" 1 "__eq__" "Writer.__eq__") rfl
  have a46 := g.def_ 46 (d := ⟨("Fill", some "__init__"), "__init__", "Fill.__init__", defArgs (inClass (top 39) 0), defBody (inClass (top 39) 0), defScope (inClass (top 39) 0), [], [("batch", .int 1), ("save", .str "last"), ("lock", .bl false), ("only_missing", .bl false), ("falls", .bl false), ("again", .bl false)]⟩) rfl
  have a47 := g.def_ 47 (d := dm 39 "Fill" 1 "__eq__" "Fill.__eq__") rfl
  have a48 := g.def_ 48 (d := ⟨("Phase", some "__init__"), "__init__", "Phase.__init__", defArgs (inClass (top 40) 0), defBody (inClass (top 40) 0), defScope (inClass (top 40) 0), [], [("writers", .adr (kwA ("Phase", some "__init__") "writers")), ("fills", .bl false), ("promises", .adr (kwA ("Phase", some "__init__") "promises")), ("waits", .adr (kwA ("Phase", some "__init__") "waits"))]⟩) rfl
  have a49 := g.def_ 49 (d := dm 40 "Phase" 1 "__eq__" "Phase.__eq__") rfl
  have a50 := g.def_ 50 (d := ⟨("Rollout", some "__init__"), "__init__", "Rollout.__init__", defArgs (inClass (top 45) 0), defBody (inClass (top 45) 0), defScope (inClass (top 45) 0), [], [("workers", .int 1), ("hands", .int 1), ("back", .adr (kwA ("Rollout", some "__init__") "back"))]⟩) rfl
  have a51 := g.def_ 51 (d := dm 45 "Rollout" 1 "__len__" "Rollout.__len__") rfl
  have a52 := g.def_ 52 (d := dm 45 "Rollout" 2 "__eq__" "Rollout.__eq__") rfl
  exact ⟨a0, a1, a2, a3, a4, a5, a6, a7, a8, a9, a10, a11, a12, a13, a14, a15, a16, a17, a18, a19, a20, a21, a22, a23, a24, a25, a26, a27, a28, a29, a30, a31, a32, a33, a34, a35, a36, a37, a38, a39, a40, a41, a42, a43, a44, a45, a46, a47, a48, a49, a50, a51, a52⟩
end K09

set_option maxRecDepth 100000
set_option maxHeartbeats 4000000
/-! What is walked may be a list or a tuple; texts told among values. -/
namespace L2
open PySem PySem.Spec PyProof.Rows
/-- two ways to read what is walked -/
def iOr (a b : TI) : TI := fun σ H R => a σ H R ∨ b σ H R
theorem pi_or {X : Cx} {tg e : Expr} {a b : TI} (ha : PI X tg e a) (hb : PI X tg e b) : PI X tg e (iOr a b) := ⟨fun pins s σ H R I h => h.elim (ha.run pins s σ H R I) (hb.run pins s σ H R I)⟩
/-- a list, or a tuple -/
def SqV (K : PySem.W.Frag) (H : Hp) (a : Addr) (xs : List V) : Prop := SqL K H a xs ∨ SqT K H a xs
theorem SqL.same {K : PySem.W.Frag} {H H' : Hp} {a : Addr} {xs : List V} (h : SqL K H a xs) (s : Same H H') : SqL K H' a xs := by
  rcases h with (h | ⟨o, h⟩) | h
  · exact .inl (.inl (s _ _ h))
  · exact .inl (.inr ⟨o, s _ _ h⟩)
  · exact .inr h
theorem SqT.same {K : PySem.W.Frag} {H H' : Hp} {a : Addr} {xs : List V} (h : SqT K H a xs) (s : Same H H') : SqT K H' a xs := by
  rcases h with (h | ⟨o, h⟩) | h
  · exact .inl (.inl (s _ _ h))
  · exact .inl (.inr ⟨o, s _ _ h⟩)
  · exact .inr h
theorem SqV.same {K : PySem.W.Frag} {H H' : Hp} {a : Addr} {xs : List V} (h : SqV K H a xs) (s : Same H H') : SqV K H' a xs := h.imp (·.same s) (·.same s)
/-- no text, whatever is made besides -/
def NoTx (K : PySem.W.Frag) (H : Hp) (x : V) : Prop := ∀ H', Same H H' → ∃ t, TyX K H' x t ∧ PySem.W.kitOne K t (.type "str") = some false
/-- no list and no tuple -/
def NoSq (K : PySem.W.Frag) (H : Hp) (x : V) : Prop := ∀ H', Same H H' → ∃ t, TyX K H' x t ∧ PySem.W.kitOne K t (.type "list") = some false ∧ PySem.W.kitOne K t (.type "tuple") = some false
theorem NoTx.same {K : PySem.W.Frag} {H H' : Hp} {x : V} (h : NoTx K H x) (s : Same H H') : NoTx K H' x := fun H2 s2 => h H2 (s.trans s2)
theorem NoSq.same {K : PySem.W.Frag} {H H' : Hp} {x : V} (h : NoSq K H x) (s : Same H H') : NoSq K H' x := fun H2 s2 => h H2 (s.trans s2)
/-- each is a text, or no text -/
def Told (K : PySem.W.Frag) (H : Hp) (xs : List V) : Prop := ∀ x ∈ xs, (∃ z : Str, x = .str z ∧ z.length ≤ 1000 ∧ PyData.canLay0 (.str z) = true) ∨ NoTx K H x
theorem Told.same {K : PySem.W.Frag} {H H' : Hp} {xs : List V} (h : Told K H xs) (s : Same H H') : Told K H' xs := fun x hx => (h x hx).imp id (·.same s)
/-- the texts, if all are -/
def txs? : List V → Option (List Str)
  | [] => some []
  | .str z :: l => (txs? l).map (z :: ·)
  | _ :: _ => none
theorem txs_map : ∀ ws : List Str, txs? (ws.map V.str) = some ws
  | [] => rfl
  | w :: ws => by
    show (txs? (ws.map V.str)).map (w :: ·) = _
    rw [txs_map ws]
    rfl
theorem txs_some : ∀ {xs : List V} {ws : List Str}, txs? xs = some ws → xs = ws.map V.str
  | [], ws, h => by cases h; rfl
  | .str z :: l, ws, h => by
    have h : (txs? l).map (z :: ·) = some ws := h
    obtain ⟨u, hu, rfl⟩ := Option.map_eq_some_iff.mp h
    rw [txs_some hu]
    rfl
  | .non :: _, _, h => by cases h
  | .bl _ :: _, _, h => by cases h
  | .int _ :: _, _, h => by cases h
  | .ref _ :: _, _, h => by cases h
  | .ty _ :: _, _, h => by cases h
  | .byt _ :: _, _, h => by cases h
  | .flt _ :: _, _, h => by cases h
/-- a comprehension over a list or a tuple that stays: what is told of it besides may change -/
theorem lc_sqv {K : PySem.W.Frag} {a : Addr} {xs : List V} {g : TG} {tt : TT} {te : TE} {vs : List Nat} {σ : St} {H : Hp} {Q : VK} {j : Nat} (hj : σ[j]? = some (some (.ref a))) (hv : SqV K H a xs) (Pv : Addr → Nat → Hp → Prop) (hk : ∀ D i G, Pv D i G → Same H G)
    (h0 : ∀ D, H D = none → Pv D 0 (upd H D (.lst [])))
    (hs : ∀ D i x G, H D = none → xs[i]? = some x → Pv D i G → g x (wipe σ vs) G fun σ2 H2 => wipe σ2 vs = wipe σ vs ∧ tt σ2 H2 fun b H3 =>
      if b = true then te σ2 H3 fun y H4 => ∃ acc, H4 D = some (.lst acc) ∧ acc.length < sizeLine ∧ Pv D (i + 1) (upd H4 D (.lst (acc ++ [y]))) else Pv D (i + 1) H3) (hd : ∀ D G, Pv D xs.length G → Q (.ref D) G) :
    tLc (iOr (iList K (tVar j)) (iTup K (tVar j))) g tt te vs σ H Q := by
  rcases hv with hv | hv
  · exact .inl ⟨_, hj, a, rfl, ⟨_, hv⟩, fun D nD => lc_list (K := K) (xs := xs) (Pv D) (h0 D nD) (fun i G _ p => SqL.same hv (hk D i G p)) (fun i x G hx p => hs D i x G nD hx p) (hd D)⟩
  · exact .inr ⟨_, hj, a, rfl, ⟨_, hv⟩, fun D nD => lc_tup (K := K) (xs := xs) (Pv D) (h0 D nD) (fun i G _ p => SqT.same hv (hk D i G p)) (fun i x G hx p => hs D i x G nD hx p) (hd D)⟩
theorem rd_notall {wi : TI} {g : TG} {tt : TT} {te : TE} {vs : List Nat} {σ : St} {H : Hp} {r : List V → Hp → VK → Prop} {Q : Bool → Hp → Prop} (h : tLc wi g tt te vs σ H fun x H1 => r [x] H1 fun v H2 => ∃ k, v = .bl k ∧ Q (!k) H2) :
    tNot (tB (tCB r (tCons (tLc wi g tt te vs) tNil))) σ H Q := h
theorem rd_call1 {wi : TI} {g : TG} {tt : TT} {te : TE} {vs : List Nat} {σ : St} {H : Hp} {r : List V → Hp → VK → Prop} {Q : VK} (h : tLc wi g tt te vs σ H fun x H1 => r [x] H1 Q) : tCB r (tCons (tLc wi g tt te vs) tNil) σ H Q := h
theorem rd_seq {t u : TS} {D : Ends} {σ : St} {H : Hp} (h : t { D with nx := u D } σ H) : tSeq t u D σ H := h
theorem rd_if {c : TT} {t u : TS} {D : Ends} {σ : St} {H : Hp} (h : c σ H fun b H1 => if b = true then t D σ H1 else u D σ H1) : tIfS c t u D σ H := h
theorem rd_ret {t : TE} {D : Ends} {σ : St} {H : Hp} (h : t σ H D.rt) : tRet t D σ H := h
theorem rd_asg {t : TE} {g : TG} {D : Ends} {σ : St} {H : Hp} (h : t σ H fun x H1 => g x σ H1 D.nx) : tAsg t g D σ H := h
/-- tuple(x), x a list or a tuple -/
def rTupS (K : PySem.W.Frag) : List V → Hp → VK → Prop := fun xs H Q => ∃ (a : Addr) (ys : List V), xs = [.ref a] ∧ SqV K H a ys ∧ ∀ (t : Addr) (G : Hp), Same H G → SqT K G t ys → Q (.ref t) G
theorem call_tupS {X : Cx} : CallR X (.type "tuple") (rTupS X.K) := by
  intro pins s σ H xs us Q I r h
  obtain ⟨a, ys, rfl, hv, k⟩ := h
  refine call_tuple_of pins s σ H _ us Q I r ⟨a, ys, rfl, ?_⟩
  rcases hv with hv | hv
  · exact .inl ⟨hv, fun l nl => k l _ (fun b o e => by rw [upd_ne (ne_of_none e nl)]; exact e) (SqT.of upd_same)⟩
  · exact .inr ⟨hv, k a H (fun _ _ e => e) hv⟩
/-- all but what is at a -/
theorem SqL.off {K : PySem.W.Frag} {H H' : Hp} {a b : Addr} {xs : List V} (h : SqL K H b xs) (n : ∀ o ys, H a ≠ some (.frz o (.lst ys)) ∧ H a ≠ some (.lst ys)) (e : ∀ c u, c ≠ a → H c = some u → H' c = some u) : SqL K H' b xs := by
  rcases h with (h | ⟨o, h⟩) | h
  · exact .inl (.inl (e _ _ (fun z => (n default xs).2 (z ▸ h)) h))
  · exact .inl (.inr ⟨o, e _ _ (fun z => (n o xs).1 (z ▸ h)) h⟩)
  · exact .inr h
theorem SqT.off {K : PySem.W.Frag} {H H' : Hp} {a b : Addr} {xs : List V} (h : SqT K H b xs) (n : ∀ o ys, H a ≠ some (.frz o (.tup ys)) ∧ H a ≠ some (.tup ys)) (e : ∀ c u, c ≠ a → H c = some u → H' c = some u) : SqT K H' b xs := by
  rcases h with (h | ⟨o, h⟩) | h
  · exact .inl (.inl (e _ _ (fun z => (n default xs).2 (z ▸ h)) h))
  · exact .inl (.inr ⟨o, e _ _ (fun z => (n o xs).1 (z ▸ h)) h⟩)
  · exact .inr h
/-- an own instance's fields are stored: sequences stand -/
theorem SqV.ins {K : PySem.W.Frag} {H H' : Hp} {a b C dx : Addr} {fs : List (Str × V)} {xs : List V} (h : SqV K H b xs) (ha : H a = some (.ins C dx fs)) (e : ∀ c u, c ≠ a → H c = some u → H' c = some u) : SqV K H' b xs :=
  h.imp (fun h => h.off (fun o ys => ⟨(fun z => by rw [ha] at z; cases z), (fun z => by rw [ha] at z; cases z)⟩) e) (fun h => h.off (fun o ys => ⟨(fun z => by rw [ha] at z; cases z), (fun z => by rw [ha] at z; cases z)⟩) e)
theorem SqT.ins {K : PySem.W.Frag} {H H' : Hp} {a b C dx : Addr} {fs : List (Str × V)} {xs : List V} (h : SqT K H b xs) (ha : H a = some (.ins C dx fs)) (e : ∀ c u, c ≠ a → H c = some u → H' c = some u) : SqT K H' b xs :=
  h.off (fun o ys => ⟨(fun z => by rw [ha] at z; cases z), (fun z => by rw [ha] at z; cases z)⟩) e
end L2

set_option maxRecDepth 100000
set_option maxHeartbeats 4000000
/-! set(xs) of a list or tuple of texts, however many and alike: how many it has. -/
namespace STX
open PySem PySem.Spec PyProof.Rows L2 SS
/-- how many unlike ones the first i have -/
def cnt (xs : List Str) : Nat → Nat
  | 0 => 0
  | i + 1 => if (xs.take i).any (· == xs.getD i Str.empty) then cnt xs i else cnt xs i + 1
theorem cnt_le (xs : List Str) : ∀ i, cnt xs i ≤ i
  | 0 => Nat.le_refl _
  | i + 1 => by
    have := cnt_le xs i
    unfold cnt
    split <;> omega
theorem cnt_all {xs : List Str} : ∀ i, i ≤ xs.length → (cnt xs i = i ↔ (xs.take i).Nodup)
  | 0, _ => by simp [cnt]
  | i + 1, h => by
    have lt : i < xs.length := h
    have ih := cnt_all (xs := xs) i (Nat.le_of_lt lt)
    have le := cnt_le xs i
    have eg : xs.getD i Str.empty = xs[i] := by rw [List.getD_eq_getElem?_getD, List.getElem?_eq_getElem lt]; rfl
    have et : xs.take (i + 1) = xs.take i ++ [xs[i]] := by rw [List.take_add_one, List.getElem?_eq_getElem lt]; rfl
    rw [et, List.nodup_append]
    unfold cnt
    rw [eg]
    by_cases m : xs[i] ∈ xs.take i
    · have hb : (xs.take i).any (· == xs[i]) = true := List.any_eq_true.mpr ⟨_, m, beq_self_eq_true _⟩
      rw [if_pos hb]
      refine ⟨fun e => absurd e (by omega), fun e => absurd rfl (e.2.2 _ m _ (List.mem_singleton.mpr rfl))⟩
    · have na : (xs.take i).any (· == xs[i]) = false := by
        cases hb : (xs.take i).any (· == xs[i]) with
        | false => rfl
        | true =>
          obtain ⟨y, hy, e⟩ := List.any_eq_true.mp hb
          rw [eq_of_beq e] at hy
          exact absurd hy m
      rw [na, if_neg (by simp)]
      refine ⟨fun e => ⟨ih.mp (by omega), by simp, fun y hy z hz q => ?_⟩, fun e => ?_⟩
      · rw [List.mem_singleton.mp hz] at q
        exact m (q ▸ hy)
      · have := ih.mpr e.1
        omega
section
variable {prog : Program} {w : World} {A : Around} {R : Result → Shared → Prop} {I S : Addr} {fp wr : List Addr} {G : Array GenState → Array GenState → Prop} {n : Nat} {P : Nat → Value → Prop} {St : Nat → Shared → Prop}
/-- the set at S, the first i of xs in it -/
abbrev Has (prog : Program) (w : World) (S : Addr) (xs : List Str) (i : Nat) (h : Heap) : Prop := h.SetOf (strKind prog w) S (fun k => (xs.take i).any (· == k)) (cnt xs i)
theorem Has.kept {xs : List Str} {i : Nat} {h h' : Heap} (q : Has prog w S xs i h) (k : ∀ o, h.get? S = some o → h'.get? S = some o) : Has prog w S xs i h' := by
  obtain ⟨o, es, ep, t, a, r⟩ := q
  exact ⟨o, es, ep, t, k o a, r⟩
theorem fills (W : WalksS prog w A.in1 I fp wr G n P St) (nf : S ∉ fp) (xs : List Str) (ln : xs.length = n) (few : n < 4000) (val : ∀ i v, P i v → ∃ t, v = .str (xs.getD i Str.empty) t) (d : Nat) :
    ∀ (i : Nat) (s : Shared), n = i + d → St i s → Has prog w S xs i s.heap → (∀ s', Moved (S :: wr) G s s' → Has prog w S xs n s'.heap → R (.ok (.ret .none)) s') →
      codeAny (model prog w) A (.builtin "set.update.loop" ⟨[.ref S, .ref I], []⟩) R s := by
  have nw : S ∉ wr := fun z => nf (W.sub _ z)
  have up : ∀ b ∈ wr, b ∈ S :: wr := fun b z => List.mem_cons_of_mem _ z
  induction d with
  | zero =>
    intro i s e at_ has k
    obtain rfl : n = i := e
    refine codeAny_builtin F.entry_set_update_loop ?_
    rw [Around.under_plainId F.plain_set_update_loop _]
    refine wpAny_bind (W.done s _ _ at_ fun s' mv => ?_)
    exact wpAny_pure (k s' (mv.mono up) (has.kept fun o z => mv.heap S _ nw z))
  | succ d ih =>
    intro i s e at_ has k
    have lt : i < n := by omega
    refine codeAny_builtin F.entry_set_update_loop ?_
    rw [Around.under_plainId F.plain_set_update_loop _]
    refine wpAny_bind (W.item i s _ _ lt at_ fun v s1 pv at1 mv => ?_)
    obtain ⟨t, rfl⟩ := val i v pv
    have has1 := has.kept (h' := s1.heap) fun o z => mv.heap S _ nw z
    have cl := cnt_le xs i
    refine wpAny_bind (wpAny_holding ?_)
    unfold setAdd
    refine wpAny_holding (wpAny_bind ((strKind prog w).pyHash (k := xs.getD i Str.empty) (strKind_is _ _ _ _) ?_))
    refine wpAny_setAddHashed_of (knd := strKind prog w) (s := { s1 with toks := s1.toks + 1 }) (strKind_is _ _ _ _) rfl has1 (by unfold scanBound; omega) fun h2 sb has2 => ?_
    have lx : i < xs.length := by omega
    have eg : xs.getD i Str.empty = xs[i] := by rw [List.getD_eq_getElem?_getD, List.getElem?_eq_getElem lx]; rfl
    have has3 : Has prog w S xs (i + 1) h2 := by
      refine SetOf_congr has2 (fun k => ?_) rfl
      show ((xs.take i).any (· == k) || decide (k = xs.getD i Str.empty)) = (xs.take (i + 1)).any (· == k)
      rw [eg, List.take_add_one, List.getElem?_eq_getElem lx, List.any_append]
      congr 1
      show decide (k = xs[i]) = ((xs[i] == k) || false)
      rw [Bool.or_false]
      by_cases q : k = xs[i]
      · rw [q]
        simp
      · rw [decide_eq_false q]
        exact (beq_eq_false_iff_ne.mpr fun z => q z.symm).symm
    have off : ∀ b o, b ≠ S → s1.heap.get? b = some o → h2.get? b = some o := fun b o nb z => by rw [sb.2 b nb]; exact z
    refine wpAny_pure ⟨plainId_quiet F.plain_set_update_loop _, ih (i + 1) _ (by omega) (W.frame _ s1 _ _ at1 (Nat.le_succ _) fun b hb o z => off b o (fun q => nf (q ▸ hb)) z) has3 fun s3 mv3 has4 => ?_⟩
    exact k s3 (Moved.trans W.gtrans ((mv.mono up).then_heap (Nat.le_succ _) fun b o hb z => off b o (fun q => hb (q ▸ List.mem_cons_self)) z) mv3) has4
end
section
variable {prog : Program} {w : World} {A : Around} {E : Value → Shared → Prop} {s : Shared}
/-- behind an empty set was made -/
abbrev sMade (s : Shared) (led : Bool) : Shared := { s with heap := s.heap.push { cls := .type "set", dict := none, data := .set #[] 0 (.fresh 0 0 led) } }
/-- what set(xs) leaves: the set at the heap's end, all else as it was -/
def Left (prog : Program) (w : World) (s : Shared) (xs : List Str) (n : Nat) (h' : Heap) : Prop := Has prog w s.heap.objs.size xs n h' ∧ ∀ b o, b < s.heap.objs.size → s.heap.get? b = some o → h'.get? b = some o
/-- a list, or a tuple -/
def SeqO (h : Heap) (l : Addr) (items : Array Value) : Prop := h.IsList l items ∨ h.IsTuple l items
theorem begun {xs : List Str} {h : Heap} {S : Addr} (led : Bool) (g : h.get? S = some { cls := .type "set", dict := none, data := .set #[] 0 (.fresh 0 0 led) }) : Has prog w S xs 0 h :=
  SetOf_congr ((setObjOf_fresh (knd := strKind prog w) led).setOf g (by unfold scanBound; omega)) (fun _ => rfl) rfl
theorem far {o : Obj} {l : Addr} (lt : l < s.heap.objs.size) : l ≠ (s.heap.push o).objs.size := fun z => by
  rw [z, Heap.size_push] at lt
  exact Nat.lt_irrefl _ (Nat.lt_trans (Nat.lt_succ_self _) lt)
theorem away {o : Obj} {l : Addr} (lt : l < s.heap.objs.size) : s.heap.objs.size ∉ [(s.heap.push o).objs.size, l] := fun z => by
  rcases List.mem_cons.mp z with z | z
  · rw [Heap.size_push] at z
    exact absurd z (Nat.ne_of_lt (Nat.lt_succ_self _))
  · rw [List.mem_singleton.mp z] at lt
    exact Nat.lt_irrefl _ lt
theorem ends {o o2 : Obj} {s' : Shared} {tk : Nat} {xs : List Str} {n : Nat} {Q : Value → Shared → Prop} (mv : Moved (s.heap.objs.size :: [(s.heap.push o).objs.size]) (fun a b => b = a) { s with heap := (s.heap.push o).push o2, toks := tk } s') (has : Has prog w s.heap.objs.size xs n s'.heap)
    (k : ∀ h' tk', Left prog w s xs n h' → Q Value.none { s with heap := h', toks := tk' }) : Q Value.none s' := by
  obtain ⟨h', g', d', tk', os'⟩ := s'
  obtain ⟨m1, m2, m3, m4, _⟩ := mv
  have e1 : g' = s.gens := m2
  have e2 : d' = s.drawn := m3
  have e3 : os' = s.os := m4
  subst e1 e2 e3
  refine k h' tk' ⟨has, fun b u lt g => m1 b u (fun z => ?_) (Heap.get?_push_of_some _ (Heap.get?_push_of_some _ g))⟩
  rcases List.mem_cons.mp z with z | z
  · rw [z] at lt
    exact Nat.lt_irrefl _ lt
  · exact far lt (List.mem_singleton.mp z)
theorem call_set {l : Addr} {items : Array Value} {xs : List Str} {Q : Value → Shared → Prop} (hd : A.handled = none) (sq : SeqO s.heap l items) (tx : StrsAre items.toList xs) (few : xs.length < 4000)
    (k : ∀ (h' : Heap) (tk : Nat), Left prog w s xs items.size h' → Q (.ref s.heap.objs.size) { s with heap := h', toks := tk }) : wpAny (model prog w) A (call (.type "set") [.ref l]) Q E s := by
  have m1 := PySem.F.called_set.made
  have m2 := PySem.F.called_set.sub
  obtain ⟨c, tl, m3⟩ := PySem.F.called_set.mro
  refine wpAny_call (codeAny_of_tree ?_)
  show wpAny _ _ (callAny (.type "set") _) _ _ _
  refine wpAny_pure ⟨Code.quiet_builtin _ (by decide +kernel), codeAny_builtin PySem.F.entry_type_call ?_⟩
  rw [Around.under_plain (weight_type_call_type "set" [.ref l] []) rfl]
  have n1 := PySem.F.called_set.notType
  have n2 := PySem.F.called_set.canCreate
  have n3 := PySem.F.typeCall_set_1 (.ref l)
  repeat (any_goals (first | assumption | wp_step))
  refine codeAny_mono (code_set_new_1 (.ref l) (E := E) (Q₁ := fun u z => ∃ led : Bool, u = .ref s.heap.objs.size ∧ z = sMade s led) fun led => ⟨led, rfl, rfl⟩) fun r z hr => ?_
  cases r with
  | error e => exact hr
  | ok fl =>
  cases fl with
  | next => exact hr.elim
  | brk => exact hr.elim
  | cont => exact hr.elim
  | ret u =>
  obtain ⟨led, rfl, rfl⟩ := hr
  have gS : (sMade s led).heap.get? s.heap.objs.size = some { cls := .type "set", dict := none, data := .set #[] 0 (.fresh 0 0 led) } := Heap.get?_push_size _ rfl
  have tS : Shared.TypeIs (sMade s led) (.ref s.heap.objs.size) "set" := ⟨_, gS, rfl⟩
  have n4 := PySem.F.called_set.init.lookup
  have n5 := PySem.F.called_set.init.bind (.ref s.heap.objs.size)
  repeat (any_goals (first | assumption | wp_step))
  refine codeAny_mono (codeAny_call_builtin (R := wants (fun r z => r = .none ∧ ∃ h' tk, z = { s with heap := h', toks := tk } ∧ Left prog w s xs items.size h') E) PySem.F.called_set.init.plain PySem.F.entry_set_init (check_set_init_1 tS ?_)) fun r z hz => ?_
  · have len : xs.length = items.size := by rw [← StrsAre.len_eq tx, Array.length_toList]
    have val : ∀ (i : Nat) (v : Value), items[i]? = some v → ∃ t, v = .str (xs.getD i Str.empty) t := fun i v hv => strs_at tx i v (by rw [Array.getElem?_toList]; exact hv)
    rcases sq with sq | sq
    · obtain ⟨⟨oc, od, dt, sl⟩, ho, hc, nl, hdt⟩ := sq
      simp only at hc hdt
      subst hc hdt
      have lS : l < s.heap.objs.size := Heap.lt_size ho
      have ho2 : (s.heap.push { cls := .type "set", dict := none, data := .set #[] 0 (.fresh 0 0 led) }).get? l = some { cls := .type "list", dict := od, data := .seq items nl, slots := sl } := Heap.get?_push_of_some _ ho
      have z1 := PySem.F.sub_list_set
      have z2 := PySem.F.sub_list_frozenset
      have z3 : (Value.type "list" == Value.type "dict") = false := by decide
      have is1 : (s.heap.push { cls := .type "set", dict := none, data := .set #[] 0 (.fresh 0 0 led) }).IsList l items := ⟨_, ho2, rfl, nl, rfl⟩
      unfold Builtin.«set.__init__» noKeywords Builtin.Frozenset.updateFrom
      generalize hP : pyIter = PI
      wp_walk
      subst hP
      refine wpAny_pyIter_list is1 (wpAny_bind (wpAny_runValue ?_))
      have nI : l ≠ (s.heap.push { cls := .type "set", dict := none, data := .set #[] 0 (.fresh 0 0 led) }).objs.size := far lS
      exact fills ((Walks.list (by simp [hd]) _ l nI items).toS) (away lS) xs len (by omega) val items.size 0 _ (by omega) ⟨⟨_, Heap.get?_push_size _ rfl, rfl, rfl⟩, is1.push _⟩
        (begun led (Heap.get?_push_of_some _ gS)) fun s' mv has => by
          show wpAny _ _ _ _ _ _
          refine wpAny_pure ?_
          show wpAny _ _ (ret Value.none) _ _ _
          exact wpAny_pure (ends (Q := fun r z => r = .none ∧ ∃ h' tk, z = { s with heap := h', toks := tk } ∧ Left prog w s xs items.size h') mv has fun h' tk' lf => ⟨rfl, h', tk', rfl, lf⟩)
    · obtain ⟨⟨oc, od, dt, sl⟩, ho, hc, nl, hdt⟩ := sq
      simp only at hc hdt
      subst hc hdt
      have lS : l < s.heap.objs.size := Heap.lt_size ho
      have ho2 : (s.heap.push { cls := .type "set", dict := none, data := .set #[] 0 (.fresh 0 0 led) }).get? l = some { cls := .type "tuple", dict := od, data := .seq items nl, slots := sl } := Heap.get?_push_of_some _ ho
      have z1 := PySem.F.sub_tuple_set
      have z2 := PySem.F.sub_tuple_frozenset
      have z3 : (Value.type "tuple" == Value.type "dict") = false := by decide
      have is1 : (s.heap.push { cls := .type "set", dict := none, data := .set #[] 0 (.fresh 0 0 led) }).IsTuple l items := ⟨_, ho2, rfl, nl, rfl⟩
      unfold Builtin.«set.__init__» noKeywords Builtin.Frozenset.updateFrom
      generalize hP : pyIter = PI
      wp_walk
      subst hP
      refine wpAny_pyIter_tuple is1 (wpAny_bind (wpAny_runValue ?_))
      have nI : l ≠ (s.heap.push { cls := .type "set", dict := none, data := .set #[] 0 (.fresh 0 0 led) }).objs.size := far lS
      exact fills ((Walks.tuple (by simp [hd]) _ l nI items).toS) (away lS) xs len (by omega) val items.size 0 _ (by omega) ⟨⟨_, Heap.get?_push_size _ rfl, rfl, rfl⟩, is1.push _⟩
        (begun led (Heap.get?_push_of_some _ gS)) fun s' mv has => by
          show wpAny _ _ _ _ _ _
          refine wpAny_pure ?_
          show wpAny _ _ (ret Value.none) _ _ _
          exact wpAny_pure (ends (Q := fun r z => r = .none ∧ ∃ h' tk, z = { s with heap := h', toks := tk } ∧ Left prog w s xs items.size h') mv has fun h' tk' lf => ⟨rfl, h', tk', rfl, lf⟩)
  · cases r with
    | error e => exact hz
    | ok fl =>
    cases fl with
    | next => exact hz.elim
    | brk => exact hz.elim
    | cont => exact hz.elim
    | ret u =>
    obtain ⟨rfl, h', tk, rfl, lf⟩ := hz
    repeat (any_goals (first | assumption | wp_step))
    exact k _ _ lf
end
end STX
namespace L2
open PySem PySem.Spec PyProof.Rows
section
variable {X : Cx}
/-- len(set(xs)): how many unlike texts -/
def tLenTx (K : PySem.W.Frag) (ta : TE) : TE := fun σ H Q => ta σ H fun x H1 => ∃ (l : Addr) (xs : List Str), x = .ref l ∧ (SqL K H1 l (xs.map V.str) ∨ SqT K H1 l (xs.map V.str)) ∧ xs.length < 4000 ∧ Q (.int (STX.cnt xs xs.length)) H1
theorem pe_lenTx {a : Expr} {ta : TE} {p p2 q pos : Pos} (hc : X.calm = true) (g1 : Gl X "len") (m1 : X.mg "len" = none) (g2 : Gl X "set") (m2 : X.mg "set" = none) (ha : PE X a ta)
    (na : starEach [a] X.env = (false, eval a X.env) :: starEach [] X.env := by rfl) : PE X (.Call (.Name "len" p) [.Call (.Name "set" p2) [a] [] q] [] pos) (tLenTx X.K ta) := by
  refine ⟨fun pins s σ H Q I h => ?_⟩
  refine Call_ (ld_blt I g1 m1 boot_len (callWith_builtin1 (args_cons ?_ rfl) rfl rfl))
  refine Call_ (ld_blt I g2 m2 boot_set (callWith_type1 (args_cons (thn (ha.run pins s σ H _ I h) fun v s1 ⟨x, H1, I1, r1, q1⟩ => args_nil ?_) na) na rfl))
  obtain ⟨l, xs, rfl, sq, few, q1⟩ := q1
  cases r1
  have both : ∃ its : List Value, Vals (xs.map V.str) its ∧ STX.SeqO s1.heap l its.toArray := by
    rcases sq with sq | sq
    · obtain ⟨its, r, pl, _⟩ := I1.list sq
      exact ⟨its, r, .inl pl.isList⟩
    · obtain ⟨its, r, pl, _⟩ := I1.tuple sq
      exact ⟨its, r, .inr pl⟩
  obtain ⟨its, r, so⟩ := both
  refine STX.call_set (I1.ok.hd hc) so (by simpa using strsAre_of r) few fun h' tk lf => args_nil ?_
  have ln : its.toArray.size = xs.length := by rw [List.size_toArray, ← r.length, List.length_map]
  obtain ⟨has, kept⟩ := lf
  rw [ln] at has
  obtain ⟨o, es, ep, t, ho, ex, dt, _, _, _, fit, n⟩ := has
  have I2 : Inv X pins σ H1 { s1 with heap := h', toks := tk } := I1.kept fun b o e => kept b o (Heap.lt_size e) e
  have := STX.cnt_le xs xs.length
  exact call_len_set ho ex dt fit (by rw [n]; omega) ⟨.int (STX.cnt xs xs.length), H1, I2.tok _, ⟨_, by rw [n]⟩, q1⟩
end
end L2

set_option maxRecDepth 100000
set_option maxHeartbeats 4000000
/-! list(s) of a text: its signs; the joining of signs. -/
namespace L2
open PySem PySem.Spec PyProof.Rows TL
/-- the sign of a code -/
abbrev sgn (c : Nat) : Str := ⟨#[c]⟩
/-- the signs of a text -/
def sgns (x : Str) : List Str := x.cps.toList.map sgn
theorem sgns_len (x : Str) : (sgns x).length = x.length := by
  unfold sgns
  rw [List.length_map, Array.length_toList]
  rfl
theorem vals_at : ∀ {xs : List V} {us : List Value}, us.length = xs.length → (∀ (j : Nat) (u : Value), us[j]? = some u → ∃ y, xs[j]? = some y ∧ RelV y u) → Vals xs us
  | [], [], _, _ => .nil
  | [], _ :: _, h, _ => by simp at h
  | _ :: _, [], h, _ => by simp at h
  | x :: xs, u :: us, h, k => by
    obtain ⟨y, e, r⟩ := k 0 u rfl
    obtain rfl : x = y := Option.some.inj e
    exact .cons r (vals_at (Nat.succ.inj h) fun j v hj => k (j + 1) v hj)
def rListTx : List V → Hp → VK → Prop := fun xs H Q => ∃ z : Str, xs = [.str z] ∧ z.length ≤ 1000 ∧ ∀ l, H l = none → Q (.ref l) (upd H l (.lst ((sgns z).map V.str)))
theorem call_list_tx {X : Cx} (hc : X.calm = true) : CallR X (.type "list") rListTx := by
  intro pins s σ H xs us Q I r h
  obtain ⟨z, rfl, few, k⟩ := h
  obtain ⟨u, rfl, t, rfl⟩ := vals1 r
  have big : 1000 < sizeLine := by decide
  have few2 : z.cps.size ≤ 1000 := few
  refine call_list_str (I.ok.hd hc) z t (fun h' tk acc c kept new items => ?_) (by omega)
  obtain ⟨n, each⟩ := items
  refine ⟨.ref s.heap.objs.size, _, I.laid (t' := tk) kept (Nat.le_refl _) ?_, rfl, k _ (I.hok.fresh (Nat.le_refl _))⟩
  have ls : acc.toList.length = ((sgns z).map V.str).length := by
    rw [List.length_map, sgns_len, Array.length_toList, n]
    rfl
  refine ⟨by rw [List.length_map, sgns_len]; omega, acc.toList, c, vals_at ls fun j v hj => ?_, by simpa using new⟩
  obtain ⟨cd, tk2, e1, rfl⟩ := each j v (by rw [← Array.getElem?_toList]; exact hj)
  refine ⟨.str (sgn cd), ?_, tk2, rfl⟩
  unfold sgns
  rw [List.map_map, List.getElem?_map, Array.getElem?_toList, e1]
  rfl
theorem tl_join_sgns (cs : List Nat) : (Txt.join (Str.ofString "") (cs.map sgn)).cps.toList = cs := by
  rw [join_eq]
  show tl (Str.join (Str.ofString "") (cs.map sgn)) = cs
  rw [tl_join]
  have e : ∀ cs : List Nat, joinL (tl (Str.ofString "")) ((cs.map sgn).map tl) = cs := fun cs => by
    induction cs with
    | nil => rfl
    | cons c cs ih =>
      cases cs with
      | nil => rfl
      | cons d cs =>
        show [c] ++ ([] ++ joinL (tl (Str.ofString "")) (((d :: cs).map sgn).map tl)) = _
        rw [ih]
        rfl
  exact e cs
end L2

set_option maxRecDepth 100000
set_option maxHeartbeats 4000000
namespace K09
open PySem PySem.Spec PyProof.Rows L2 He VH
/-! names, words, lists of them -/
abbrev sWrd : Stmt := top 12
abbrev sWds : Stmt := top 13
abbrev sSeq : Stmt := top 14
abbrev sNam : Stmt := top 16
abbrev sNms : Stmt := top 17
abbrev FnWrd (K : PySem.W.Frag) (fd : FuncData) : Prop := FnP K "is_word" sWrd (ga K "is_word") fd
abbrev FnWds (K : PySem.W.Frag) (fd : FuncData) : Prop := FnP K "are_words" sWds (ga K "are_words") fd
abbrev FnSeq (K : PySem.W.Frag) (fd : FuncData) : Prop := FnP K "is_sequence" sSeq (ga K "is_sequence") fd
abbrev FnNam (K : PySem.W.Frag) (fd : FuncData) : Prop := FnP K "is_name" sNam (ga K "is_name") fd
abbrev FnNms (K : PySem.W.Frag) (fd : FuncData) : Prop := FnP K "are_names" sNms (ga K "are_names") fd
theorem bWrd {K : PySem.W.Frag} {fd : FuncData} (F : FnWrd K fd) : Binds K fd ["value", "words"] [] := FunD.bindsN F fun _ _ _ _ _ _ us hl => match us, hl with | [_, _], _ => rfl
theorem bWds {K : PySem.W.Frag} {fd : FuncData} (F : FnWds K fd) : Binds K fd ["values", "words"] [] := FunD.bindsN F fun _ _ _ _ _ _ us hl => match us, hl with | [_, _], _ => rfl
theorem bSeq {K : PySem.W.Frag} {fd : FuncData} (F : FnSeq K fd) : Binds K fd ["value"] [] := FunD.bindsN F fun _ _ _ _ _ _ us hl => match us, hl with | [_], _ => rfl
theorem bNam {K : PySem.W.Frag} {fd : FuncData} (F : FnNam K fd) : Binds K fd ["value"] [] := FunD.bindsN F fun _ _ _ _ _ _ us hl => match us, hl with | [_], _ => rfl
theorem bNms {K : PySem.W.Frag} {fd : FuncData} (F : FnNms K fd) : Binds K fd ["value"] [] := FunD.bindsN F fun _ _ _ _ _ _ us hl => match us, hl with | [_], _ => rfl
theorem inV_strs {z : Str} {ws : List Str} : inV (.str z) (ws.map V.str) = ws.contains z := by
  induction ws with
  | nil => rfl
  | cons w ws ih =>
    rw [List.map_cons, List.contains_cons]
    show (eqV (.str w) (.str z) || inV (.str z) (ws.map V.str)) = _
    rw [ih]
    congr 1
    show decide (w = z) = (z == w)
    by_cases h : w = z
    · subst h
      simp
    · rw [decide_eq_false h]
      exact (beq_eq_false_iff_ne.mpr fun e => h e.symm).symm
theorem flat_strs {ws : List Str} : (ws.map V.str).all flatV = true := by
  rw [List.all_map]
  exact List.all_eq_true.mpr fun _ _ => rfl
theorem same_put {H G : Hp} {D : Addr} {u : HO} (s : Same H G) (n : H D = none) : Same H (upd G D u) := fun b o e => by
  rw [upd_ne (ne_of_none e n)]
  exact s b o e
def spWrd (K : PySem.W.Frag) : Sp := fun vs H Q _ => ∃ (x : V) (p : Addr) (ws : List Str), vs = [x, .ref p] ∧ SqT K H p (ws.map V.str) ∧
  ((∃ z, x = .str z ∧ Q (.bl (ws.contains z)) H) ∨ (NoTx K H x ∧ Q (.bl false) H))
def spSeq (K : PySem.W.Frag) : Sp := fun vs H Q _ => ∃ x : V, vs = [x] ∧ ((∃ (a : Addr) (xs : List V), x = .ref a ∧ SqV K H a xs ∧ ∀ H', Same H H' → Q (.bl true) H') ∨ (NoSq K H x ∧ ∀ H', Same H H' → Q (.bl false) H'))
section
variable {P : Program} {w : World} {K : PySem.W.Frag} {mg : Str → Option Value} {base : Heap} {f : Addr} {fd fdW fdS fdN : FuncData}
theorem scWrd : FnScope ["value", "words"] ["value", "words"] (defScope sWrd) := ⟨rfl, rfl, rfl, by decide +kernel, rfl, by decide +kernel, by decide +kernel⟩
theorem ok_wrd (F : FnP K "is_word" sWrd f fd) (T : Txt K mg w) : FnOk P w K mg base CX0 1 f fd ["value", "words"] (spWrd K) := by
  refine F.ok scWrd (fun vs H Q E h => ?_) (fun cdv A outer s H vs Q E hr h => ?_)
  · obtain ⟨x, p, ws, rfl, _⟩ := h
    rfl
  refine ⟨_, PSs.nox (pss_one (ps_ret (pe_and (pe_callB call_isi (by rfl) T.g_isinstance boot_isinstance (pa_cons (pv 0) (pa_cons (pe_bltn (v := .ty "str") (by rfl) T.g_str boot_str rfl) pa_nil))) (pe_one (pe_cmpR op_in_seq (pv 0) (pv 1) (by rfl)))))), ?_⟩
  obtain ⟨x, p, ws, rfl, hp, h⟩ := h
  rcases h with ⟨z, rfl, q⟩ | ⟨no, q⟩
  · refine ⟨_, rfl, _, _, _, _, true, rfl, .ty "str", .base (.str z), kit_ty (by decide +kernel), true, rfl, iteT ?_⟩
    refine ⟨_, rfl, _, rfl, p, _, rfl, .inr hp, rfl, flat_strs, ?_⟩
    rw [inV_strs]
    exact q
  · obtain ⟨t, ty, k⟩ := no H (Same.refl H)
    exact ⟨_, rfl, _, _, _, _, false, rfl, .ty "str", ty, k, false, rfl, iteF q⟩
theorem scSeq : FnScope ["value"] ["value"] (defScope sSeq) := ⟨rfl, rfl, rfl, by decide +kernel, rfl, by decide +kernel, by decide +kernel⟩
theorem sqv_ty {K : PySem.W.Frag} {H : Hp} {a : Addr} {xs : List V} (h : SqV K H a xs) : (∃ t : String, (t = "list" ∨ t = "tuple") ∧ TyX K H (.ref a) (.type t)) := by
  rcases h with ((h | ⟨o, h⟩) | ⟨o, its, n, h1, h2, _⟩) | ((h | ⟨o, h⟩) | ⟨o, its, n, h1, h2, _⟩)
  · exact ⟨"list", .inl rfl, .base (.lst h)⟩
  · exact ⟨"list", .inl rfl, .base (.frz h)⟩
  · exact ⟨"list", .inl rfl, .kList h1 h2⟩
  · exact ⟨"tuple", .inr rfl, .base (.tup h)⟩
  · exact ⟨"tuple", .inr rfl, .fTuple h⟩
  · exact ⟨"tuple", .inr rfl, .kTuple h1 h2⟩
theorem ok_seq (F : FnP K "is_sequence" sSeq f fd) (T : Txt K mg w) : FnOk P w K mg base CX0 1 f fd ["value"] (spSeq K) := by
  refine F.ok scSeq (fun vs H Q E h => ?_) (fun cdv A outer s H vs Q E hr h => ?_)
  · obtain ⟨x, rfl, _⟩ := h
    rfl
  refine ⟨_, PSs.nox (pss_one (ps_ret (pe_callB call_isiT (by rfl) T.g_isinstance boot_isinstance (pa_cons (pv 0) (pa_cons (pe_tup (pa_cons (pe_bltn (v := .ty "list") (by rfl) T.g_list boot_list rfl) (pa_cons (pe_bltn (v := .ty "tuple") (by rfl) T.g_tuple boot_tuple rfl) pa_nil))) pa_nil))))), ?_⟩
  obtain ⟨x, rfl, h⟩ := h
  refine ⟨_, rfl, (show 2 ≤ sizeLine by decide), fun tp np => ?_⟩
  have S := Same.new (o := .tup [.ty "list", .ty "tuple"]) np
  rcases h with ⟨a, xs, rfl, hv, k⟩ | ⟨no, k⟩
  · obtain ⟨t, ht, ty⟩ := sqv_ty (hv.same S)
    refine ⟨_, tp, _, _, _, true, rfl, upd_same, .cons (.ty _) (.cons (.ty _) .nil), ty, ?_, k _ S⟩
    rcases ht with rfl | rfl
    · exact kitAny_cons (b := true) (kit_ty (by decide +kernel)) (fun e => Bool.noConfusion e) (fun _ => rfl)
    · exact kitAny_cons (b := false) (kit_ty (by decide +kernel)) (fun _ => kitAny_cons (b := true) (kit_ty (by decide +kernel)) (fun e => Bool.noConfusion e) (fun _ => rfl)) (fun e => Bool.noConfusion e)
  · obtain ⟨t, ty, k1, k2⟩ := no _ S
    exact ⟨_, tp, _, _, _, false, rfl, upd_same, .cons (.ty _) (.cons (.ty _) .nil), ty, kitAny_cons (b := false) k1 (fun _ => kitAny_cons (b := false) k2 (fun _ => kitAny_nil) (fun e => Bool.noConfusion e)) (fun e => Bool.noConfusion e), k _ S⟩
abbrev LET : Str := "abcdefghijklmnopqrstuvwxyz"
/-- a name: 1 to 12 small letters -/
def nameB (z : Str) : Bool := decide (1 ≤ (z.length : Int)) && (decide ((z.length : Int) ≤ 12) && z.cps.toList.all fun c => decide (c ∈ LET.cps.toList))
def spNam (K : PySem.W.Frag) : Sp := fun vs H Q _ => ∃ x : V, vs = [x] ∧ ((∃ z : Str, x = .str z ∧ z.length ≤ 1000 ∧ ∀ H', Same H H' → Q (.bl (nameB z)) H') ∨ (NoTx K H x ∧ ∀ H', Same H H' → Q (.bl false) H'))
theorem scNam : FnScope ["value", "letter"] ["value"] (defScope sNam) := ⟨rfl, rfl, rfl, by decide +kernel, rfl, by decide +kernel, by decide +kernel⟩
theorem ok_nam (F : FnP K "is_name" sNam f fd) (T : Txt K mg w) : FnOk P w K mg base CX0 1 f fd ["value"] (spNam K) := by
  obtain ⟨tl, hL⟩ := T.s_LETTERS
  refine F.ok scNam (fun vs H Q E h => ?_) (fun cdv A outer s H vs Q E hr h => ?_)
  · obtain ⟨x, rfl, _⟩ := h
    rfl
  refine ⟨_, PSs.nox (pss_one (ps_ret (pe_and (pe_callB call_isi (by rfl) T.g_isinstance boot_isinstance (pa_cons (pv 0) (pa_cons (pe_bltn (v := .ty "str") (by rfl) T.g_str boot_str rfl) pa_nil)))
    (pe_and (pe_chain op_le op_le pe_int (pe_callB call_len_str (by rfl) T.g_len boot_len (pa_cons (pv 0) pa_nil)) pe_int)
    (pe_one (pe_callB (cr_all rfl) (by rfl) T.g_all boot_all (pa_cons (pe_lc (own := [("letter", 1)]) (g := gName 1) (tt := tYes) rfl scNam.nd (pi_str (pv 0)) (blkOk_by (N := ["value", "letter"]) (sc := defScope sNam) (by decide +kernel))
      (fun _ _ _ _ _ => pg_name (i := 1) scNam.nd rfl (Or.inl rfl)) (fun _ _ _ _ _ => pts_nil) (fun _ _ _ _ _ => pe_cmpR op_in_sign (pv 1) (pe_glob (v := .str LET) (by rfl) hL ⟨_, rfl⟩) (by rfl))) pa_nil))))))), ?_⟩
  obtain ⟨x, rfl, h⟩ := h
  rcases h with ⟨z, rfl, few, k⟩ | ⟨no, k⟩
  · unfold nameB at k
    have big : 1000 < sizeLine := by decide
    refine ⟨_, rfl, _, _, _, _, true, rfl, .ty "str", .base (.str z), kit_ty (by decide +kernel), true, rfl, iteT ?_⟩
    refine ⟨_, rfl, z, rfl, by omega, _, _, rfl, rfl, ?_⟩
    refine ⟨_, rfl, ?_⟩
    cases l1 : decide (1 ≤ (z.length : Int)) with
    | false =>
      rw [l1] at k
      exact iteF ⟨_, rfl, iteF (k H (Same.refl H))⟩
    | true =>
      rw [l1] at k
      refine iteT ⟨_, _, rfl, rfl, _, rfl, ?_⟩
      cases l2 : decide ((z.length : Int) ≤ 12) with
      | false =>
        rw [l2] at k
        exact iteF (k H (Same.refl H))
      | true =>
        rw [l2] at k
        refine iteT ⟨_, rfl, z, rfl, fun D nD => ?_⟩
        refine lc_it walk_str (fun i G => Same H G ∧ G D = some (.lst (((z.cps.toList.take i).map fun c => decide (c ∈ LET.cps.toList)).map V.bl))) ⟨Same.new nD, upd_same⟩ (fun _ _ _ _ => trivial) (fun i x G G' li g y => ?_) (fun G g => ?_)
        · obtain ⟨rfl, c, hc, rfl⟩ := y
          obtain ⟨sG, hD⟩ := g
          have li2 : i < z.length := li
          refine ⟨rfl, _, rfl, c, LET, rfl, rfl, _, hD, ?_, same_put sG nD, ?_⟩
          · rw [List.length_map, List.length_map, List.length_take]
            omega
          · have hc2 : z.cps.toList[i]? = some c := by rw [Array.getElem?_toList]; exact hc
            rw [upd_same, List.take_succ, hc2]
            simp
        · obtain ⟨sG, hD⟩ := g
          have e : z.cps.toList.take z.cps.size = z.cps.toList := by rw [← Array.length_toList, List.take_length]
          rw [e] at hD
          refine ⟨D, _, rfl, SqL.of hD, ?_⟩
          rw [List.all_map]
          exact k G sG
  · obtain ⟨t, ty, kk⟩ := no H (Same.refl H)
    exact ⟨_, rfl, _, _, _, _, false, rfl, .ty "str", ty, kk, false, rfl, iteF (k H (Same.refl H))⟩
def itN : V → Bool
  | .str z => nameB z
  | _ => false
/-- a list or tuple of different names -/
def nmsB (xs : List V) : Bool := match txs? xs with
  | some cs => cs.all nameB && decide cs.Nodup
  | none => false
theorem all_itN : ∀ {xs : List V}, xs.all itN = true → ∃ cs, txs? xs = some cs ∧ cs.all nameB = true
  | [], _ => ⟨[], rfl, rfl⟩
  | x :: l, h => by
    rw [List.all_cons, Bool.and_eq_true] at h
    obtain ⟨cs, e, a⟩ := all_itN h.2
    cases x with
    | str z => exact ⟨z :: cs, by show (txs? l).map (z :: ·) = _; rw [e]; rfl, by rw [List.all_cons, a, Bool.and_true]; exact h.1⟩
    | _ => exact absurd h.1 (by simp [itN])
theorem itN_map {cs : List Str} : (cs.map V.str).all itN = cs.all nameB := by rw [List.all_map]; rfl
theorem nmsB_no {xs : List V} (h : xs.all itN = false) : nmsB xs = false := by
  unfold nmsB
  split
  · rename_i cs e
    rw [txs_some e, itN_map] at h
    rw [h]
    rfl
  · rfl
def spNms (K : PySem.W.Frag) : Sp := fun vs H Q _ => ∃ x : V, vs = [x] ∧ ((∃ (a : Addr) (xs : List V), x = .ref a ∧ SqV K H a xs ∧ Told K H xs ∧ xs.length ≤ 1000 ∧ ∀ H', Same H H' → Q (.bl (nmsB xs)) H') ∨ (NoSq K H x ∧ ∀ H', Same H H' → Q (.bl false) H'))
theorem scNms : FnScope ["value", "name"] ["value"] (defScope sNms) := ⟨rfl, rfl, rfl, by decide +kernel, rfl, by decide +kernel, by decide +kernel⟩
theorem ok_nms (F : FnP K "are_names" sNms f fd) (T : Txt K mg w) (FS : FnSeq K fdS) (FN : FnNam K fdN) : FnOk P w K mg base CX0 2 f fd ["value"] (spNms K) := by
  have GS : FnOk P w K mg base CX0 1 (ga K "is_sequence") fdS ["value"] (spSeq K) := ok_seq FS T
  have GN : FnOk P w K mg base CX0 1 (ga K "is_name") fdN ["value"] (spNam K) := ok_nam FN T
  refine F.ok scNms (fun vs H Q E h => ?_) (fun cdv A outer s H vs Q E hr h => ?_)
  · obtain ⟨x, rfl, _⟩ := h
    rfl
  refine ⟨_, PSs.nox (pss_cons (ps_if (PW.pt (pw_or (pt_not (pt_val (pe_call GS hr (by rfl) T.m_is_sequence FS.kp (bSeq FS) .nil pass0 (pa_cons (pv 0) pa_nil))))
      (pw_or1 (pt_not (pt_val (pe_callB (cr_all rfl) (by rfl) T.g_all boot_all (pa_cons (pe_lc (own := [("name", 1)]) (g := gName 1) (tt := tYes) rfl scNms.nd (pi_or (pi_list (pv 0)) (pi_tup (pv 0))) (blkOk_by (N := ["value", "name"]) (sc := defScope sNms) (by decide +kernel))
        (fun _ _ _ _ _ => pg_name (i := 1) scNms.nd rfl (Or.inl rfl)) (fun _ _ _ _ _ => pts_nil) (fun _ _ _ _ _ => pe_call GN hr (by rfl) T.m_is_name FN.kp (bNam FN) .nil pass0 (pa_cons (pv 1) pa_nil))) pa_nil))))))) (pss_one (ps_ret pe_bl)) pss_nil)
    (pss_one (ps_ret (pe_cmpR op_eq (pe_lenTx rfl (by rfl) T.g_len (by rfl) T.g_set (pv 0)) (pe_callB call_len_seq (by rfl) T.g_len boot_len (pa_cons (pv 0) pa_nil)) (nomark _))))), ?_⟩
  obtain ⟨x, rfl, h⟩ := h
  rcases h with ⟨a, xs, rfl, hv, td, few, k⟩ | ⟨no, k⟩
  · have big : 1000 < sizeLine := by decide
    refine ⟨_, rfl, _, rfl, .inl ⟨a, xs, rfl, hv, fun H1 S1 => ⟨true, rfl, iteF ?_⟩⟩⟩
    refine rd_notall (lc_sqv (j := 0) (xs := xs) (by rfl) (hv.same S1) (fun D i G => Same H1 G ∧ G D = some (.lst (((xs.take i).map itN).map V.bl))) (fun D i G p => p.1) (fun D nD => ⟨Same.new nD, upd_same⟩) (fun D i x G nD hx p => ?_) (fun D G p => ?_))
    · obtain ⟨sG, hD⟩ := p
      have li := (List.getElem?_eq_some_iff.mp hx).1
      have fin : ∀ (b : Bool) (G' : Hp), b = itN x → Same G G' → ∃ acc, G' D = some (.lst acc) ∧ acc.length < sizeLine ∧ Same H1 (upd G' D (.lst (acc ++ [.bl b]))) ∧ upd G' D (.lst (acc ++ [.bl b])) D = some (.lst (((xs.take (i + 1)).map itN).map V.bl)) := fun b G' e S => by
        refine ⟨_, S _ _ hD, ?_, same_put (sG.trans S) nD, ?_⟩
        · rw [List.length_map, List.length_map, List.length_take]
          omega
        · rw [upd_same, List.take_succ, hx, e]
          simp
      refine ⟨rfl, _, rfl, x, rfl, ?_⟩
      rcases td x (List.mem_of_getElem? hx) with ⟨z, rfl, lz, _⟩ | no
      · exact .inl ⟨z, rfl, lz, fun G' S => fin _ G' rfl S⟩
      · refine .inr ⟨(no.same S1).same sG, fun G' S => fin _ G' ?_ S⟩
        cases x with
        | str z =>
          obtain ⟨t, ty, kk⟩ := no H (Same.refl H)
          cases ty with
          | base b =>
            cases b
            rw [kit_ty (K := K) (r := true) (by decide +kernel)] at kk
            cases kk
        | _ => rfl
    · obtain ⟨sG, hD⟩ := p
      rw [List.take_length] at hD
      refine ⟨D, _, rfl, SqL.of hD, ?_⟩
      rw [List.all_map]
      show ∃ c, V.bl (xs.all itN) = .bl c ∧ _
      refine ⟨_, rfl, ?_⟩
      cases ha : xs.all itN with
      | false =>
        have := k G (S1.trans sG)
        rw [nmsB_no ha] at this
        exact iteT this
      | true =>
        obtain ⟨cs, ec, ac⟩ := all_itN ha
        obtain rfl := txs_some ec
        have hv2 : SqV K G a (cs.map V.str) := (hv.same S1).same sG
        have lc : cs.length ≤ 1000 := by rw [List.length_map] at few; exact few
        refine iteF ⟨_, rfl, a, cs, rfl, hv2, by omega, _, rfl, a, _, rfl, hv2, rfl, ?_⟩
        have e : decide (V.int (STX.cnt cs cs.length : Nat) = V.int ((cs.map V.str).length : Nat)) = nmsB (cs.map V.str) := by
          unfold nmsB
          rw [ec]
          show _ = (cs.all nameB && decide cs.Nodup)
          rw [ac, Bool.true_and, List.length_map]
          have q := STX.cnt_all (xs := cs) cs.length (Nat.le_refl _)
          rw [List.take_length] at q
          by_cases nd : cs.Nodup
          · rw [decide_eq_true nd, q.mpr nd]
            simp
          · rw [decide_eq_false nd]
            refine decide_eq_false fun z => nd (q.mp ?_)
            have := V.int.inj z
            omega
        rw [e]
        exact k G (S1.trans sG)
  · exact ⟨_, rfl, _, rfl, .inr ⟨no, fun H1 S1 => ⟨false, rfl, iteT (k H1 S1)⟩⟩⟩
end
end K09

set_option maxRecDepth 100000
set_option maxHeartbeats 4000000
namespace K09
open PySem PySem.Spec PyProof.Rows L2 He VH
/-! lists of words -/
theorem dpS {K : PySem.W.Frag} {H : Hp} : ∀ ws : List Str, DpAll K H (ws.map V.str) (ws.map PyData.str)
  | [] => .nil
  | w :: ws => .cons (.str w) (dpS ws)
theorem eqvS : ∀ as bs : List Str, PyData.eqvAll (as.map PyData.str) (bs.map PyData.str) = decide (as = bs)
  | [], [] => rfl
  | [], _ :: _ => rfl
  | _ :: _, [] => rfl
  | a :: as, b :: bs => by
    show (PyData.eqv (.str a) (.str b) && PyData.eqvAll (as.map PyData.str) (bs.map PyData.str)) = _
    rw [eqvS as bs]
    show ((a == b) && decide (as = bs)) = _
    by_cases h : a = b
    · subst h
      by_cases h2 : as = bs <;> simp [h2]
    · simp [h]
theorem shpAll : ∀ ws : List Str, (∀ z ∈ ws, PyData.canLay0 (.str z) = true) → PyData.canLayAll0 (ws.map PyData.str) = true ∧ PyData.depthAll (ws.map PyData.str) = 0
  | [], _ => ⟨rfl, rfl⟩
  | w :: ws, h => by
    obtain ⟨h1, h2⟩ := shpAll ws fun z hz => h z (List.mem_cons_of_mem _ hz)
    refine ⟨?_, ?_⟩
    · show (PyData.canLay0 (.str w) && PyData.canLayAll0 (ws.map PyData.str)) = true
      rw [h1, h w (List.mem_cons_self ..)]
      rfl
    · show max (PyData.depth (.str w)) (PyData.depthAll (ws.map PyData.str)) = 0
      rw [h2]
      rfl
theorem shpL {ws : List Str} (h : ∀ z ∈ ws, PyData.canLay0 (.str z) = true) : SeqAt.shaped (.list (ws.map PyData.str)) = true := by
  have z := shpAll ws h
  unfold SeqAt.shaped PyData.canLay0 PyData.depth
  rw [z.1, z.2]
  rfl
/-- whether these words stand among those, in their order -/
def wdsOk (cs ws : List Str) : Bool := cs.all ws.contains && decide (cs = ws.filter cs.contains)
def wdsB (xs : List V) (ws : List Str) : Bool := match txs? xs with
  | some cs => wdsOk cs ws
  | none => false
def itW (ws : List Str) : V → Bool
  | .str z => ws.contains z
  | _ => false
theorem all_itW {ws : List Str} : ∀ {xs : List V}, xs.all (itW ws) = true → ∃ cs, txs? xs = some cs ∧ cs.all ws.contains = true
  | [], _ => ⟨[], rfl, rfl⟩
  | x :: l, h => by
    rw [List.all_cons, Bool.and_eq_true] at h
    obtain ⟨cs, e, a⟩ := all_itW h.2
    cases x with
    | str z => exact ⟨z :: cs, by show (txs? l).map (z :: ·) = _; rw [e]; rfl, by rw [List.all_cons, a, Bool.and_true]; exact h.1⟩
    | _ => exact absurd h.1 (by simp [itW])
theorem itW_map {ws cs : List Str} : (cs.map V.str).all (itW ws) = cs.all ws.contains := by rw [List.all_map]; rfl
theorem wdsB_no {xs : List V} {ws : List Str} (h : xs.all (itW ws) = false) : wdsB xs ws = false := by
  unfold wdsB
  split
  · rename_i cs e
    rw [txs_some e, itW_map] at h
    unfold wdsOk
    rw [h]
    rfl
  · rfl
def spWds (K : PySem.W.Frag) : Sp := fun vs H Q _ => ∃ (a p : Addr) (xs : List V) (ws : List Str), vs = [.ref a, .ref p] ∧ SqV K H a xs ∧ Told K H xs ∧ xs.length ≤ 1000 ∧ (∀ H, SqT K H p (ws.map V.str)) ∧ ws.length ≤ 1000 ∧
  (∀ z ∈ ws, PyData.canLay0 (.str z) = true) ∧ ∀ H', Same H H' → Q (.bl (wdsB xs ws)) H'
section
variable {P : Program} {w : World} {K : PySem.W.Frag} {mg : Str → Option Value} {base : Heap} {f : Addr} {fd fdW : FuncData}
abbrev nWds : List Str := ["values", "words", "value", "word"]
theorem scWds : FnScope nWds ["values", "words"] (defScope sWds) := ⟨rfl, rfl, rfl, by decide +kernel, rfl, by decide +kernel, by decide +kernel⟩
theorem notx_str {K : PySem.W.Frag} {H : Hp} {z : Str} (no : NoTx K H (.str z)) : False := by
  obtain ⟨t, ty, kk⟩ := no H (Same.refl H)
  cases ty with
  | base b =>
    cases b
    rw [kit_ty (K := K) (r := true) (by decide +kernel)] at kk
    cases kk
theorem ok_wds (F : FnP K "are_words" sWds f fd) (T : Txt K mg w) (FW : FnWrd K fdW) : FnOk P w K mg base CX0 2 f fd ["values", "words"] (spWds K) := by
  have GW : FnOk P w K mg base CX0 1 (ga K "is_word") fdW ["value", "words"] (spWrd K) := ok_wrd FW T
  refine F.ok scWds (fun vs H Q E h => ?_) (fun cdv A outer s H vs Q E hr h => ?_)
  · obtain ⟨_, _, _, _, rfl, _⟩ := h
    rfl
  refine ⟨_, PSs.nox (pss_cons (ps_if (pt_not (pt_val (pe_callB (cr_all rfl) (by rfl) T.g_all boot_all (pa_cons (pe_lc (own := [("value", 2)]) (g := gName 2) (tt := tYes) rfl scWds.nd (pi_or (pi_list (pv 0)) (pi_tup (pv 0))) (blkOk_by (N := nWds) (sc := defScope sWds) (by decide +kernel))
        (fun _ _ _ _ _ => pg_name (i := 2) scWds.nd rfl (Or.inl rfl)) (fun _ _ _ _ _ => pts_nil) (fun _ _ _ _ _ => pe_call GW hr (by rfl) T.m_is_word FW.kp (bWrd FW) .nil pass0 (pa_cons (pv 2) (pa_cons (pv 1) pa_nil)))) pa_nil)))) (pss_one (ps_ret pe_bl)) pss_nil)
    (pss_one (ps_ret (pe_cmpR (op_eqD hr.units) (pe_callTy call_list_of (by rfl) T.g_list boot_list (pa_cons (pv 0) pa_nil))
      (pe_lc (own := [("word", 3)]) (g := gName 3) (tt := tTest (tOp (rIn K false) (tVar 3) (tVar 0))) (te := tVar 3) rfl scWds.nd (pi_tup (pv 1)) (blkOk_by (N := nWds) (sc := defScope sWds) (by decide +kernel))
        (fun _ _ _ _ _ => pg_name (i := 3) scWds.nd rfl (Or.inl rfl)) (fun _ _ _ _ _ => pts_one (pt_cmpR op_in_seq (pv 3) (pv 0) (by rfl))) (fun _ _ _ _ _ => pv 3)) (nomark _))))), ?_⟩
  obtain ⟨a, p, xs, ws, rfl, hv, td, few, hp, lw, lays, k⟩ := h
  have big : 1000 < sizeLine := by decide
  refine rd_seq (rd_if (rd_notall (lc_sqv (j := 0) (xs := xs) (by rfl) hv (fun D i G => Same H G ∧ G D = some (.lst (((xs.take i).map (itW ws)).map V.bl))) (fun D i G p => p.1) (fun D nD => ⟨Same.new nD, upd_same⟩) (fun D i x G nD hx p => ?_) (fun D G p => ?_))))
  · obtain ⟨sG, hD⟩ := p
    have li := (List.getElem?_eq_some_iff.mp hx).1
    have fin : ∀ b : Bool, b = itW ws x → ∃ acc, G D = some (.lst acc) ∧ acc.length < sizeLine ∧ Same H (upd G D (.lst (acc ++ [.bl b]))) ∧ upd G D (.lst (acc ++ [.bl b])) D = some (.lst (((xs.take (i + 1)).map (itW ws)).map V.bl)) := fun b e => by
      refine ⟨_, hD, ?_, same_put sG nD, ?_⟩
      · rw [List.length_map, List.length_map, List.length_take]
        omega
      · rw [upd_same, List.take_succ, hx, e]
        simp
    refine ⟨rfl, _, rfl, _, rfl, x, _, ws, rfl, hp _, ?_⟩
    rcases td x (List.mem_of_getElem? hx) with ⟨z, rfl, lz, _⟩ | no
    · exact .inl ⟨z, rfl, fin _ rfl⟩
    · refine .inr ⟨no.same sG, fin _ ?_⟩
      cases x with
      | str z => exact (notx_str no).elim
      | _ => rfl
  · obtain ⟨sG, hD⟩ := p
    rw [List.take_length] at hD
    refine ⟨D, _, rfl, SqL.of hD, ?_⟩
    rw [List.all_map]
    show ∃ c, V.bl (xs.all (itW ws)) = .bl c ∧ _
    refine ⟨_, rfl, ?_⟩
    cases ha : xs.all (itW ws) with
    | false =>
      have := k G sG
      rw [wdsB_no ha] at this
      exact iteT this
    | true =>
      obtain ⟨cs, ec, ac⟩ := all_itW ha
      obtain rfl := txs_some ec
      have hv2 : SqV K G a (cs.map V.str) := hv.same sG
      have lc : cs.length ≤ 1000 := by rw [List.length_map] at few; exact few
      have k := fun H' S => k H' S
      have ek : wdsB (cs.map V.str) ws = decide (cs = ws.filter cs.contains) := by
        unfold wdsB wdsOk
        rw [ec]
        show (cs.all ws.contains && _) = _
        rw [ac, Bool.true_and]
      rw [ek] at k
      refine iteF ⟨_, rfl, a, _, rfl, hv2, fun l nl => ?_⟩
      have sL := sG.trans (Same.new (o := .lst (cs.map V.str)) nl)
      have hl : upd G l (.lst (cs.map V.str)) l = some (.lst (cs.map V.str)) := upd_same
      generalize upd G l (.lst (cs.map V.str)) = G1 at sL hl ⊢
      refine ⟨_, rfl, p, rfl, ⟨_, hp _⟩, fun D2 hD2 => ?_⟩
      refine lc_tup (K := K) (xs := ws.map V.str) (fun i G2 => Same G1 G2 ∧ G2 D2 = some (.lst (((ws.take i).filter cs.contains).map V.str))) ⟨Same.new hD2, upd_same⟩ (fun i G2 _ g => hp _) (fun i x G2 hx g => ?_) (fun G2 g => ?_)
      · obtain ⟨s2, h2⟩ := g
        rw [List.getElem?_map] at hx
        obtain ⟨c, hc, rfl⟩ := Option.map_eq_some_iff.mp hx
        have lt := (List.getElem?_eq_some_iff.mp hc).1
        refine ⟨rfl, _, rfl, _, rfl, a, _, rfl, (hv.same sL).same s2, rfl, flat_strs, _, rfl, ?_⟩
        rw [inV_strs]
        cases hin : cs.contains c with
        | true =>
          refine iteT ⟨_, rfl, _, h2, ?_, same_put s2 hD2, ?_⟩
          · rw [List.length_map]
            have := List.length_filter_le cs.contains (ws.take i)
            rw [List.length_take] at this
            omega
          · rw [upd_same, List.take_succ, hc]
            simp only [Option.toList, List.filter_append, List.filter_cons, hin, if_true, List.filter_nil, List.map_append]
            rfl
        | false =>
          refine iteF ⟨s2, ?_⟩
          rw [h2, List.take_succ, hc]
          simp only [Option.toList, List.filter_append, List.filter_cons, hin, Bool.false_eq_true, if_false, List.filter_nil, List.append_nil]
      · obtain ⟨s2, h2⟩ := g
        rw [List.length_map, List.take_length] at h2
        have lay1 : ∀ z ∈ cs, PyData.canLay0 (.str z) = true := fun z hz => lays z (List.contains_iff_mem.mp (List.all_eq_true.mp ac z hz))
        have lay2 : ∀ z ∈ ws.filter cs.contains, PyData.canLay0 (.str z) = true := fun z hz => lays z (List.mem_filter.mp hz).1
        refine ⟨_, _, .lst (SqL.of (s2 _ _ hl)) (dpS cs), .lst (SqL.of h2) (dpS _), shpL lay1, shpL lay2, ?_⟩
        show Q (.bl (PyData.eqvAll (cs.map PyData.str) ((ws.filter cs.contains).map PyData.str))) G2
        rw [eqvS]
        exact k G2 (sL.trans s2)
end
end K09

set_option maxRecDepth 100000
set_option maxHeartbeats 4000000
/-! == of a dict and a text or a tuple: never so. -/
namespace L2
open PySem PySem.Spec PyProof.Rows SeqAt
section
variable {M : Model} {prog : Program} {w : World} {A : Around} {s : Shared} {E : Value → Shared → Prop}
theorem call_dict_eq_no {d : Addr} {y : Value} {T : String} (hd : s.TypeIs (.ref d) "dict") (hy : s.TypeIs y T) (hs : isSubtype (.type T) (.type "dict") = pure false) {Q : Value → Shared → Prop} (h : Q .notImplemented s) :
    wpAny (model prog w) A (call (.builtin "dict.__eq__") [.ref d, y]) Q E s := by
  refine wpAny_call_entry PySem.F.slot_dict_eq hd PySem.F.entry_dict_eq ?_ (PySem.F.args_dict_eq_2 _ _)
  show wpAny _ _ (Builtin.Dict.dictSlotArgs "__eq__" ⟨[.ref d, y], []⟩ >>= _) _ _ s
  refine wpAny_bind ?_
  unfold Builtin.Dict.dictSlotArgs
  refine wpAny_bind (wpAny_notOrdered_dict hd ?_)
  show wpAny _ _ (pure (Value.ref d, y)) _ _ s
  refine wpAny_pure ?_
  refine wpAny_bind (wpAny_isInstance hy hs ?_)
  simp only [Bool.not_false, if_true]
  refine wpAny_bind (wpAny_rule ?_)
  exact wpAny_pure ⟨_, rfl, h⟩
theorem call_dict_eq_refl_no {d : Addr} {y : Value} {T : String} (hd : s.TypeIs (.ref d) "dict") (hy : s.TypeIs y T) (hs : isSubtype (.type T) (.type "dict") = pure false) {Q : Value → Shared → Prop} (h : Q .notImplemented s) :
    wpAny (model prog w) A (call (.builtin "dict.__eq__") [.ref d, y]) Q E s := call_dict_eq_no hd hy hs h
end
end L2
namespace L2
open PySem PySem.Spec PyProof.Rows SeqAt MeetsSeq
open AutoSeq1 (wpAny_loadPart')
theorem str_eq_declines_dict (b : Str) (u : Tok) (l : Addr) (c : Value) (es : Array DictEntry) (ep : Nat) (dd : Option Addr) (sl : Array (Option Value)) :
    Meets (Builtin.«str.__eq__» ⟨[.str b u, .ref l], []⟩) (fun _ R s => s.heap.get? l = some { cls := c, dict := dd, data := .dict es ep, slots := sl } ∧ R (.ok (.ret .notImplemented)) s) :=
  .of_wp fun prog w A R s h => by obtain ⟨hp, g, d, tk, os⟩ := s; obtain ⟨hl, h⟩ := h; wp_walk using wpAny_loadPart' hl, wpAny_load hl; exact ⟨_, rfl, h⟩
theorem tuple_eq_declines_dict (l b : Addr) (items : Array Value) (n : Nat) (es : Array DictEntry) (ep : Nat) (dd dd2 : Option Addr) (sl sl2 : Array (Option Value)) :
    Meets (Builtin.«tuple.__eq__» ⟨[.ref l, .ref b], []⟩) (fun _ R s => s.heap.get? l = some { cls := .type "tuple", dict := dd, data := .seq items n, slots := sl } ∧ s.heap.get? b = some { cls := .type "dict", dict := dd2, data := .dict es ep, slots := sl2 } ∧ R (.ok (.ret .notImplemented)) s) :=
  .of_wp fun prog w A R s h => by obtain ⟨hp, g, d, tk, os⟩ := s; obtain ⟨hl, hb, h⟩ := h; have f1 := F.sub_dict_tuple; wp_walk using wpAny_loadPart' hl, wpAny_loadPart' hb; exact ⟨_, rfl, h⟩
section
variable {A : Around} {s : Shared}
/-- a dict of the model's -/
def IsDct (s : Shared) (d : Addr) : Prop := ∃ (es : Array DictEntry) (ep : Nat) (dd : Option Addr) (sl : Array (Option Value)), s.heap.get? d = some { cls := .type "dict", dict := dd, data := .dict es ep, slots := sl }
theorem IsDct.ty {d : Addr} (h : IsDct s d) : s.TypeIs (.ref d) "dict" := let ⟨_, _, _, _, e⟩ := h; ⟨_, e, rfl⟩
theorem RcAt.str_dict {d : Addr} (b : Str) (u : Tok) (hl : IsDct s d) (hu : A.units < cLine) : RcAt A s (.str b u) (.ref d) false := fun prog w E Q h => by
  have ty := hl.ty
  obtain ⟨es, ep, dd, sl, ho⟩ := hl
  exact rc_eq_decline_or (k := false) rfl ty (by decide) F.sub_dict_str F.slot_str_eq F.slot_dict_eq_refl
    (fun _ hq => call_meets F.slot_str_eq rfl F.entry_str_eq (F.args_str_eq_2 _ _) (str_eq_declines_dict b u d _ es ep dd sl) ⟨ho, hq⟩)
    (fun _ hq => call_dict_eq_no ty (y := .str b u) (T := "str") rfl F.sub_str_dict hq)
    (fun _ hq => wpAny_of_eq (rfl : isSame (.str b u) (.ref d) = pure false) hq) (.inr hu) h
theorem RcAt.dict_str {d : Addr} (b : Str) (u : Tok) (hl : IsDct s d) (hu : A.units < cLine) : RcAt A s (.ref d) (.str b u) false := fun prog w E Q h => by
  have ty := hl.ty
  obtain ⟨es, ep, dd, sl, ho⟩ := hl
  exact rc_eq_decline_or (k := false) ty rfl (by decide) F.sub_str_dict F.slot_dict_eq F.slot_str_eq_refl
    (fun _ hq => call_dict_eq_no ty (y := .str b u) (T := "str") rfl F.sub_str_dict hq)
    (fun _ hq => call_meets F.slot_str_eq_refl rfl F.entry_str_eq (F.args_str_eq_2 _ _) (str_eq_declines_dict b u d _ es ep dd sl) ⟨ho, hq⟩)
    (fun _ hq => wpAny_of_eq (rfl : isSame (.ref d) (.str b u) = pure false) hq) (.inr hu) h
theorem EqAt.str_dict {d : Addr} (b : Str) (u : Tok) (hl : IsDct s d) (hu : A.units < cLine) : EqAt A s (.str b u) (.ref d) false := fun prog w E Q h => by
  unfold eqBool
  refine wpAny_holding ?_
  refine wpAny_ite_split (fun hab => absurd (eq_of_beq hab) nofun) (fun _ => ?_)
  exact wpAny_bind (RcAt.str_dict b u hl hu prog w E _ (wpAny_truthy_bool h))
theorem EqAt.dict_str {d : Addr} (b : Str) (u : Tok) (hl : IsDct s d) (hu : A.units < cLine) : EqAt A s (.ref d) (.str b u) false := fun prog w E Q h => by
  unfold eqBool
  refine wpAny_holding ?_
  refine wpAny_ite_split (fun hab => absurd (eq_of_beq hab) nofun) (fun _ => ?_)
  exact wpAny_bind (RcAt.dict_str b u hl hu prog w E _ (wpAny_truthy_bool h))
theorem ne_of_tuple_dict {l b : Addr} {items : Array Value} (hl : s.heap.IsTuple l items) (hb : IsDct s b) : l ≠ b := fun e => by
  subst e
  obtain ⟨o, ho, hc, _⟩ := hl
  obtain ⟨_, _, _, _, ho2⟩ := hb
  rw [ho] at ho2
  cases ho2
  exact absurd hc (by simp)
theorem RcAt.tuple_dict {l b : Addr} {items : Array Value} (hl : s.heap.IsTuple l items) (hb : IsDct s b) (hu : A.units < cLine) : RcAt A s (.ref l) (.ref b) false := fun prog w E Q h => by
  have hne := ne_of_tuple_dict hl hb
  have ty := hb.ty
  obtain ⟨⟨cls, dd, data, sl⟩, ho, hc, n, hd⟩ := id hl
  obtain ⟨es, ep, dd2, sl2, ho2⟩ := hb
  simp only at hc hd
  subst hc hd
  exact (rc_eq_decline_or (k := false) ⟨_, ho, rfl⟩ ty (by decide) F.sub_dict_tuple F.slot_tuple_eq F.slot_dict_eq_refl
    (fun _ hq => call_meets F.slot_tuple_eq ⟨_, ho, rfl⟩ F.entry_tuple_eq (F.args_tuple_eq_2 _ _) (tuple_eq_declines_dict l b items n es ep dd dd2 sl sl2) ⟨ho, ho2, hq⟩)
    (fun _ hq => call_dict_eq_no ty (y := .ref l) (T := "tuple") ⟨_, ho, rfl⟩ F.sub_tuple_dict hq)
    (fun _ hq => wpAny_isSame_ref_other' hne ho ho2 (by simp) hq) (.inr hu) h)
theorem EqAt.tuple_dict {l b : Addr} {items : Array Value} (hl : s.heap.IsTuple l items) (hb : IsDct s b) (hu : A.units < cLine) : EqAt A s (.ref l) (.ref b) false := .of_refs (ne_of_tuple_dict hl hb) (RcAt.tuple_dict hl hb hu)
end
end L2

set_option maxRecDepth 100000
set_option maxHeartbeats 4000000
/-! == and in, over things of any kind: a tree for each thing; dicts and their like are a leaf. -/
namespace L2
open PySem PySem.Spec PyProof.Rows SeqAt
inductive Tr where
  | non
  | bl (b : Bool)
  | int (i : Int)
  | str (z : Str)
  | dct
  | tup (ts : List Tr)
  | lst (ts : List Tr)
namespace Tr
mutual
/-- what == tells, where a rule speaks of it -/
def eq : Tr → Tr → Option Bool
  | .non, .non => some true
  | .non, .bl _ => some false
  | .non, .int _ => some false
  | .non, .str _ => some false
  | .non, .tup _ => some false
  | .non, .lst _ => some false
  | .bl a, .bl b => some (a == b)
  | .bl a, .int i => some ((if a then 1 else 0) == i)
  | .bl _, .non => some false
  | .bl _, .str _ => some false
  | .bl _, .tup _ => some false
  | .bl _, .lst _ => some false
  | .int i, .int j => some (i == j)
  | .int i, .bl b => some (i == (if b then 1 else 0))
  | .int _, .non => some false
  | .int _, .str _ => some false
  | .int _, .tup _ => some false
  | .int _, .lst _ => some false
  | .str a, .str b => some (a == b)
  | .str _, .non => some false
  | .str _, .bl _ => some false
  | .str _, .int _ => some false
  | .str _, .tup _ => some false
  | .str _, .lst _ => some false
  | .str _, .dct => some false
  | .dct, .str _ => some false
  | .tup _, .dct => some false
  | .tup _, .non => some false
  | .tup _, .bl _ => some false
  | .tup _, .int _ => some false
  | .tup _, .str _ => some false
  | .tup _, .lst _ => some false
  | .lst _, .non => some false
  | .lst _, .bl _ => some false
  | .lst _, .int _ => some false
  | .lst _, .str _ => some false
  | .lst _, .tup _ => some false
  | .tup xs, .tup ys => eqs xs ys
  | .lst xs, .lst ys => if xs.length = ys.length then eqs xs ys else some false
  | .non, .dct => none
  | .bl _, .dct => none
  | .int _, .dct => none
  | .lst _, .dct => none
  | .dct, .non => none
  | .dct, .bl _ => none
  | .dct, .int _ => none
  | .dct, .tup _ => none
  | .dct, .lst _ => none
  | .dct, .dct => none
def eqs : List Tr → List Tr → Option Bool
  | [], [] => some true
  | [], _ :: _ => some false
  | _ :: _, [] => some false
  | x :: xs, y :: ys => match eq x y, eqs xs ys with
    | some b, some c => some (b && c)
    | _, _ => none
end
mutual
def dep : Tr → Nat
  | .tup ts => deps ts + 1
  | .lst ts => deps ts + 1
  | _ => 0
def deps : List Tr → Nat
  | [] => 0
  | t :: ts => max (dep t) (deps ts)
end
mutual
theorem eq_self : ∀ (t : Tr) (b : Bool), eq t t = some b → b = true
  | .non, b, h => by simpa [eq] using h.symm
  | .bl _, b, h => by simp [eq] at h; exact h
  | .int _, b, h => by simp [eq] at h; exact h
  | .str _, b, h => by simp [eq] at h; exact h
  | .dct, b, h => by simp [eq] at h
  | .tup xs, b, h => eqs_self xs b (by simpa [eq] using h)
  | .lst xs, b, h => eqs_self xs b (by simpa [eq] using h)
theorem eqs_self : ∀ (ts : List Tr) (b : Bool), eqs ts ts = some b → b = true
  | [], b, h => by simpa [eqs] using h.symm
  | t :: ts, b, h => by
    simp only [eqs] at h
    cases e : eq t t with
    | none => rw [e] at h; simp at h
    | some c =>
      rw [e] at h
      cases e2 : eqs ts ts with
      | none => rw [e2] at h; simp at h
      | some d =>
        rw [e2] at h
        have h : (c && d) = b := Option.some.inj h
        rw [← h, eq_self t c e, eqs_self ts d e2]
        rfl
end
end Tr
mutual
inductive At (K : PySem.W.Frag) (H : Hp) : V → Tr → Prop
  | non : At K H .non .non
  | bl {b : Bool} : At K H (.bl b) (.bl b)
  | int {i : Int} : At K H (.int i) (.int i)
  | str {z : Str} : At K H (.str z) (.str z)
  | dct {a : Addr} {kvs : List (Key × V)} (h : H a = some (.dK kvs)) : At K H (.ref a) .dct
  | tup {a : Addr} {xs : List V} {ts : List Tr} (h : SqT K H a xs) (hs : Ats K H xs ts) : At K H (.ref a) (.tup ts)
  | lst {a : Addr} {xs : List V} {ts : List Tr} (h : SqL K H a xs) (hs : Ats K H xs ts) : At K H (.ref a) (.lst ts)
inductive Ats (K : PySem.W.Frag) (H : Hp) : List V → List Tr → Prop
  | nil : Ats K H [] []
  | cons {x : V} {t : Tr} {xs : List V} {ts : List Tr} (h : At K H x t) (hs : Ats K H xs ts) : Ats K H (x :: xs) (t :: ts)
end
theorem Ats.len {K : PySem.W.Frag} {H : Hp} : ∀ {xs : List V} {ts : List Tr}, Ats K H xs ts → xs.length = ts.length
  | [], [], _ => rfl
  | _ :: _, _ :: _, .cons _ h => congrArg Nat.succ h.len
/-- what stands fast in tuples and texts stays -/
theorem sqT_same' {K : PySem.W.Frag} {H H' : Hp} {a : Addr} {xs : List V} (s : Same H H') (h : SqT K H a xs) : SqT K H' a xs := by
  rcases h with (h | ⟨o, h⟩) | h
  · exact .inl (.inl (s _ _ h))
  · exact .inl (.inr ⟨o, s _ _ h⟩)
  · exact .inr h
theorem sqL_same' {K : PySem.W.Frag} {H H' : Hp} {a : Addr} {xs : List V} (s : Same H H') (h : SqL K H a xs) : SqL K H' a xs := by
  rcases h with (h | ⟨o, h⟩) | h
  · exact .inl (.inl (s _ _ h))
  · exact .inl (.inr ⟨o, s _ _ h⟩)
  · exact .inr h
mutual
theorem At.same {K : PySem.W.Frag} {H H' : Hp} (s : Same H H') : ∀ {x : V} {t : Tr}, At K H x t → At K H' x t
  | _, _, .non => .non
  | _, _, .bl => .bl
  | _, _, .int => .int
  | _, _, .str => .str
  | _, _, .dct h => .dct (s _ _ h)
  | _, _, .tup h hs => .tup (sqT_same' s h) (hs.same s)
  | _, _, .lst h hs => .lst (sqL_same' s h) (hs.same s)
theorem Ats.same {K : PySem.W.Frag} {H H' : Hp} (s : Same H H') : ∀ {xs : List V} {ts : List Tr}, Ats K H xs ts → Ats K H' xs ts
  | _, _, .nil => .nil
  | _, _, .cons h hs => .cons (h.same s) (hs.same s)
end
section
variable {X : Cx} {pins : List (Addr × Obj)} {σ : St} {H : Hp} {s : Shared}
theorem Inv.isDct (I : Inv X pins σ H s) {a : Addr} {kvs : List (Key × V)} (h : H a = some (.dK kvs)) : IsDct s a := by
  obtain ⟨_, _, va, _, o, es, ep, ho, hc, hd, _⟩ := (show ObjOk X.prog X.w H s.heap a (.dK kvs) from I.hok a _ h)
  obtain ⟨cls, dd, data, sl⟩ := o
  simp only at hd
  have hc : cls = .type "dict" := hc.1
  subst hc hd
  exact ⟨es, ep, dd, sl, ho⟩
mutual
theorem At.inj (I : Inv X pins σ H s) : ∀ {x : V} {t u : Tr}, At X.K H x t → At X.K H x u → t = u
  | _, _, _, .non, .non => rfl
  | _, _, _, .bl, .bl => rfl
  | _, _, _, .int, .int => rfl
  | _, _, _, .str, .str => rfl
  | _, _, _, .dct _, .dct _ => rfl
  | _, _, _, .dct h, .tup h' _ => by
    obtain ⟨_, _, ⟨o, ho, hc, _⟩, _⟩ := I.tuple h'
    obtain ⟨_, _, _, _, e⟩ := I.isDct h
    rw [e] at ho
    cases ho
    exact absurd hc (by simp)
  | _, _, _, .dct h, .lst h' _ => by
    obtain ⟨_, _, p, _⟩ := I.list h'
    obtain ⟨o, ho, hc, _⟩ := p.isList
    obtain ⟨_, _, _, _, e⟩ := I.isDct h
    rw [e] at ho
    cases ho
    exact absurd hc (by simp)
  | _, _, _, .tup h' _, .dct h => by
    obtain ⟨_, _, ⟨o, ho, hc, _⟩, _⟩ := I.tuple h'
    obtain ⟨_, _, _, _, e⟩ := I.isDct h
    rw [e] at ho
    cases ho
    exact absurd hc (by simp)
  | _, _, _, .lst h' _, .dct h => by
    obtain ⟨_, _, p, _⟩ := I.list h'
    obtain ⟨o, ho, hc, _⟩ := p.isList
    obtain ⟨_, _, _, _, e⟩ := I.isDct h
    rw [e] at ho
    cases ho
    exact absurd hc (by simp)
  | _, _, _, .tup h hs, .tup h' hs' => by
    cases I.tuple_inj h h'
    rw [Ats.inj I hs hs']
  | _, _, _, .lst h hs, .lst h' hs' => by
    cases I.list_inj h h'
    rw [Ats.inj I hs hs']
  | _, _, _, .tup h _, .lst h' _ => by
    obtain ⟨_, _, t, _⟩ := I.tuple h
    obtain ⟨_, _, p, _⟩ := I.list h'
    exact absurd rfl (ne_of_list_tuple p.isList t)
  | _, _, _, .lst h' _, .tup h _ => by
    obtain ⟨_, _, t, _⟩ := I.tuple h
    obtain ⟨_, _, p, _⟩ := I.list h'
    exact absurd rfl (ne_of_list_tuple p.isList t)
theorem Ats.inj (I : Inv X pins σ H s) : ∀ {xs : List V} {ts us : List Tr}, Ats X.K H xs ts → Ats X.K H xs us → ts = us
  | _, _, _, .nil, .nil => rfl
  | _, _, _, .cons h hs, .cons h' hs' => by rw [At.inj I h h', Ats.inj I hs hs']
end

mutual
theorem eqAt_T (I : Inv X pins σ H s) : ∀ (t u : Tr) (b : Bool), Tr.eq t u = some b → ∀ {x y : V} {v w : Value} {A : Around}, At X.K H x t → At X.K H y u → RelV x v → RelV y w → A.units + t.dep < cLine → EqAt A s v w b
  | .non, .non, b, e, x, y, v, w, A, hx, hy, rx, ry, hu => by
    cases hx; cases hy; cases rx; cases ry
    cases Option.some.inj e
    exact EqAt.same _
  | .tup ts, .tup us, b, e, x, y, v, w, A, hx, hy, rx, ry, hu => by
    cases hx with
    | tup h1 hs1 =>
      cases hy with
      | tup h2 hs2 =>
        rename_i a1 xs1 a2 xs2
        cases (show v = Value.ref a1 from rx)
        cases (show w = Value.ref a2 from ry)
        by_cases ne : a1 = a2
        · subst ne
          cases I.tuple_inj h1 h2
          cases Ats.inj I hs1 hs2
          have : b = true := Tr.eq_self (.tup ts) b e
          rw [this]
          exact EqAt.same _
        · refine EqAt.of_refs ne ?_
          obtain ⟨vs, r1, ⟨o1, g1, c1, n1, d1⟩, _⟩ := I.tuple h1
          obtain ⟨ws, r2, ⟨o2, g2, c2, n2, d2⟩, _⟩ := I.tuple h2
          have e' : Tr.eqs ts us = some b := by simpa [Tr.eq] using e
          have hu' : A.in1.units + Tr.deps ts < cLine := by
            have : A.units + (Tr.deps ts + 1) < cLine := hu
            show A.units + 1 + Tr.deps ts < cLine
            omega
          obtain ⟨f, hf, eb⟩ := eqAts_T I ts us b e' (A := A.in1) hs1 hs2 r1 r2 hu'
          have hh := SeqAt.RcAt.tuples (s := s) (A := A) (e := f) ⟨o1, g1, c1, n1, d1⟩ ⟨o2, g2, c2, n2, d2⟩ (by omega) (fun j k1 k2 => by
            have := hf j (by simpa using k1) (by simpa using k2)
            simpa using this)
          rw [List.size_toArray, List.size_toArray, ← eb] at hh
          exact hh
  | .non, .bl q, b, e, x, y, v, w, A, hx, hy, rx, ry, hu => by
    cases hx; cases hy
    cases rx
    cases ry
    cases Option.some.inj e
    exact EqAt.none_bool _
  | .non, .int q, b, e, x, y, v, w, A, hx, hy, rx, ry, hu => by
    cases hx; cases hy
    cases rx
    obtain ⟨_, rfl⟩ := ry
    cases Option.some.inj e
    exact EqAt.none_int _ _
  | .non, .str q, b, e, x, y, v, w, A, hx, hy, rx, ry, hu => by
    cases hx; cases hy
    cases rx
    obtain ⟨_, rfl⟩ := ry
    cases Option.some.inj e
    exact EqAt.none_str _ _
  | .bl p, .non, b, e, x, y, v, w, A, hx, hy, rx, ry, hu => by
    cases hx; cases hy
    cases rx
    cases ry
    cases Option.some.inj e
    exact EqAt.bool_none _
  | .bl p, .bl q, b, e, x, y, v, w, A, hx, hy, rx, ry, hu => by
    cases hx; cases hy
    cases rx
    cases ry
    cases Option.some.inj e
    exact EqAt.bool_bool _ _
  | .bl p, .int q, b, e, x, y, v, w, A, hx, hy, rx, ry, hu => by
    cases hx; cases hy
    cases rx
    obtain ⟨_, rfl⟩ := ry
    cases Option.some.inj e
    exact EqAt.bool_int _ _ _
  | .bl p, .str q, b, e, x, y, v, w, A, hx, hy, rx, ry, hu => by
    cases hx; cases hy
    cases rx
    obtain ⟨_, rfl⟩ := ry
    cases Option.some.inj e
    exact EqAt.bool_str _ _ _
  | .int p, .non, b, e, x, y, v, w, A, hx, hy, rx, ry, hu => by
    cases hx; cases hy
    obtain ⟨_, rfl⟩ := rx
    cases ry
    cases Option.some.inj e
    exact EqAt.int_none _ _
  | .int p, .bl q, b, e, x, y, v, w, A, hx, hy, rx, ry, hu => by
    cases hx; cases hy
    obtain ⟨_, rfl⟩ := rx
    cases ry
    cases Option.some.inj e
    exact EqAt.int_bool _ _ _
  | .int p, .int q, b, e, x, y, v, w, A, hx, hy, rx, ry, hu => by
    cases hx; cases hy
    obtain ⟨_, rfl⟩ := rx
    obtain ⟨_, rfl⟩ := ry
    cases Option.some.inj e
    exact EqAt.int_int _ _ _ _
  | .int p, .str q, b, e, x, y, v, w, A, hx, hy, rx, ry, hu => by
    cases hx; cases hy
    obtain ⟨_, rfl⟩ := rx
    obtain ⟨_, rfl⟩ := ry
    cases Option.some.inj e
    exact EqAt.int_str _ _ _ _
  | .str p, .non, b, e, x, y, v, w, A, hx, hy, rx, ry, hu => by
    cases hx; cases hy
    obtain ⟨_, rfl⟩ := rx
    cases ry
    cases Option.some.inj e
    exact EqAt.str_none _ _
  | .str p, .bl q, b, e, x, y, v, w, A, hx, hy, rx, ry, hu => by
    cases hx; cases hy
    obtain ⟨_, rfl⟩ := rx
    cases ry
    cases Option.some.inj e
    exact EqAt.str_bool _ _ _
  | .str p, .int q, b, e, x, y, v, w, A, hx, hy, rx, ry, hu => by
    cases hx; cases hy
    obtain ⟨_, rfl⟩ := rx
    obtain ⟨_, rfl⟩ := ry
    cases Option.some.inj e
    exact EqAt.str_int _ _ _ _
  | .str p, .str q, b, e, x, y, v, w, A, hx, hy, rx, ry, hu => by
    cases hx; cases hy
    obtain ⟨_, rfl⟩ := rx
    obtain ⟨_, rfl⟩ := ry
    cases Option.some.inj e
    exact EqAt.str_str _ _ _ _
  | .non, .tup q, b, e, x, y, v, w, A, hx, hy, rx, ry, hu => by
    cases hx
    cases hy with
    | tup h2 hs2 =>
      rename_i a2 xs2
      cases rx
      cases (show w = Value.ref a2 from ry)
      cases Option.some.inj e
      obtain ⟨_, _, pl, _⟩ := I.tuple h2
      exact EqAt.none_tuple  pl (by omega)
  | .tup q, .non, b, e, x, y, v, w, A, hx, hy, rx, ry, hu => by
    cases hy
    cases hx with
    | tup h1 hs1 =>
      rename_i a1 xs1
      cases ry
      cases (show v = Value.ref a1 from rx)
      cases Option.some.inj e
      obtain ⟨_, _, pl, _⟩ := I.tuple h1
      exact EqAt.tuple_none  pl (by omega)
  | .non, .lst q, b, e, x, y, v, w, A, hx, hy, rx, ry, hu => by
    cases hx
    cases hy with
    | lst h2 hs2 =>
      rename_i a2 xs2
      cases rx
      cases (show w = Value.ref a2 from ry)
      cases Option.some.inj e
      obtain ⟨_, _, pl, _⟩ := I.list h2
      exact EqAt.none_list  pl.isList (by omega)
  | .lst q, .non, b, e, x, y, v, w, A, hx, hy, rx, ry, hu => by
    cases hy
    cases hx with
    | lst h1 hs1 =>
      rename_i a1 xs1
      cases ry
      cases (show v = Value.ref a1 from rx)
      cases Option.some.inj e
      obtain ⟨_, _, pl, _⟩ := I.list h1
      exact EqAt.list_none  pl.isList (by omega)
  | .bl p, .tup q, b, e, x, y, v, w, A, hx, hy, rx, ry, hu => by
    cases hx
    cases hy with
    | tup h2 hs2 =>
      rename_i a2 xs2
      cases rx
      cases (show w = Value.ref a2 from ry)
      cases Option.some.inj e
      obtain ⟨_, _, pl, _⟩ := I.tuple h2
      exact EqAt.bool_tuple _ pl (by omega)
  | .tup q, .bl p, b, e, x, y, v, w, A, hx, hy, rx, ry, hu => by
    cases hy
    cases hx with
    | tup h1 hs1 =>
      rename_i a1 xs1
      cases ry
      cases (show v = Value.ref a1 from rx)
      cases Option.some.inj e
      obtain ⟨_, _, pl, _⟩ := I.tuple h1
      exact EqAt.tuple_bool _ pl (by omega)
  | .bl p, .lst q, b, e, x, y, v, w, A, hx, hy, rx, ry, hu => by
    cases hx
    cases hy with
    | lst h2 hs2 =>
      rename_i a2 xs2
      cases rx
      cases (show w = Value.ref a2 from ry)
      cases Option.some.inj e
      obtain ⟨_, _, pl, _⟩ := I.list h2
      exact EqAt.bool_list _ pl.isList (by omega)
  | .lst q, .bl p, b, e, x, y, v, w, A, hx, hy, rx, ry, hu => by
    cases hy
    cases hx with
    | lst h1 hs1 =>
      rename_i a1 xs1
      cases ry
      cases (show v = Value.ref a1 from rx)
      cases Option.some.inj e
      obtain ⟨_, _, pl, _⟩ := I.list h1
      exact EqAt.list_bool _ pl.isList (by omega)
  | .int p, .tup q, b, e, x, y, v, w, A, hx, hy, rx, ry, hu => by
    cases hx
    cases hy with
    | tup h2 hs2 =>
      rename_i a2 xs2
      obtain ⟨_, rfl⟩ := rx
      cases (show w = Value.ref a2 from ry)
      cases Option.some.inj e
      obtain ⟨_, _, pl, _⟩ := I.tuple h2
      exact EqAt.int_tuple _ _ pl (by omega)
  | .tup q, .int p, b, e, x, y, v, w, A, hx, hy, rx, ry, hu => by
    cases hy
    cases hx with
    | tup h1 hs1 =>
      rename_i a1 xs1
      obtain ⟨_, rfl⟩ := ry
      cases (show v = Value.ref a1 from rx)
      cases Option.some.inj e
      obtain ⟨_, _, pl, _⟩ := I.tuple h1
      exact EqAt.tuple_int _ _ pl (by omega)
  | .int p, .lst q, b, e, x, y, v, w, A, hx, hy, rx, ry, hu => by
    cases hx
    cases hy with
    | lst h2 hs2 =>
      rename_i a2 xs2
      obtain ⟨_, rfl⟩ := rx
      cases (show w = Value.ref a2 from ry)
      cases Option.some.inj e
      obtain ⟨_, _, pl, _⟩ := I.list h2
      exact EqAt.int_list _ _ pl.isList (by omega)
  | .lst q, .int p, b, e, x, y, v, w, A, hx, hy, rx, ry, hu => by
    cases hy
    cases hx with
    | lst h1 hs1 =>
      rename_i a1 xs1
      obtain ⟨_, rfl⟩ := ry
      cases (show v = Value.ref a1 from rx)
      cases Option.some.inj e
      obtain ⟨_, _, pl, _⟩ := I.list h1
      exact EqAt.list_int _ _ pl.isList (by omega)
  | .str p, .tup q, b, e, x, y, v, w, A, hx, hy, rx, ry, hu => by
    cases hx
    cases hy with
    | tup h2 hs2 =>
      rename_i a2 xs2
      obtain ⟨_, rfl⟩ := rx
      cases (show w = Value.ref a2 from ry)
      cases Option.some.inj e
      obtain ⟨_, _, pl, _⟩ := I.tuple h2
      exact EqAt.str_tuple _ _ pl (by omega)
  | .tup q, .str p, b, e, x, y, v, w, A, hx, hy, rx, ry, hu => by
    cases hy
    cases hx with
    | tup h1 hs1 =>
      rename_i a1 xs1
      obtain ⟨_, rfl⟩ := ry
      cases (show v = Value.ref a1 from rx)
      cases Option.some.inj e
      obtain ⟨_, _, pl, _⟩ := I.tuple h1
      exact EqAt.tuple_str _ _ pl (by omega)
  | .str p, .lst q, b, e, x, y, v, w, A, hx, hy, rx, ry, hu => by
    cases hx
    cases hy with
    | lst h2 hs2 =>
      rename_i a2 xs2
      obtain ⟨_, rfl⟩ := rx
      cases (show w = Value.ref a2 from ry)
      cases Option.some.inj e
      obtain ⟨_, _, pl, _⟩ := I.list h2
      exact EqAt.str_list _ _ pl.isList (by omega)
  | .lst q, .str p, b, e, x, y, v, w, A, hx, hy, rx, ry, hu => by
    cases hy
    cases hx with
    | lst h1 hs1 =>
      rename_i a1 xs1
      obtain ⟨_, rfl⟩ := ry
      cases (show v = Value.ref a1 from rx)
      cases Option.some.inj e
      obtain ⟨_, _, pl, _⟩ := I.list h1
      exact EqAt.list_str _ _ pl.isList (by omega)
  | .str p, .dct, b, e, x, y, v, w, A, hx, hy, rx, ry, hu => by
    cases hx
    cases hy with
    | dct h2 =>
      rename_i a2 xs2
      obtain ⟨_, rfl⟩ := rx
      cases (show w = Value.ref a2 from ry)
      cases Option.some.inj e
      exact EqAt.str_dict _ _ (I.isDct h2) (by omega)
  | .dct, .str p, b, e, x, y, v, w, A, hx, hy, rx, ry, hu => by
    cases hy
    cases hx with
    | dct h1 =>
      rename_i a1 xs1
      obtain ⟨_, rfl⟩ := ry
      cases (show v = Value.ref a1 from rx)
      cases Option.some.inj e
      exact EqAt.dict_str _ _ (I.isDct h1) (by omega)
  | .tup ts, .dct, b, e, x, y, v, w, A, hx, hy, rx, ry, hu => by
    cases hy with
    | dct h2 =>
      rename_i a2 xs2
      cases hx with
      | tup h1 hs1 =>
        rename_i a1 xs1
        cases (show v = Value.ref a1 from rx)
        cases (show w = Value.ref a2 from ry)
        cases Option.some.inj e
        obtain ⟨_, _, pl, _⟩ := I.tuple h1
        exact EqAt.tuple_dict pl (I.isDct h2) (by omega)
  | .tup ts, .lst us, b, e, x, y, v, w, A, hx, hy, rx, ry, hu => by
    cases hy with
    | lst h2 hs2 =>
      rename_i a2 xs2
      cases hx with
      | tup h1 hs1 =>
        rename_i a1 xs1
        cases (show v = Value.ref a1 from rx)
        cases (show w = Value.ref a2 from ry)
        cases Option.some.inj e
        obtain ⟨_, _, p1, _⟩ := I.tuple h1
        obtain ⟨_, _, p2, _⟩ := I.list h2
        exact EqAt.tuple_list p1 p2.isList (by omega)
  | .lst ts, .tup us, b, e, x, y, v, w, A, hx, hy, rx, ry, hu => by
    cases hy with
    | tup h2 hs2 =>
      rename_i a2 xs2
      cases hx with
      | lst h1 hs1 =>
        rename_i a1 xs1
        cases (show v = Value.ref a1 from rx)
        cases (show w = Value.ref a2 from ry)
        cases Option.some.inj e
        obtain ⟨_, _, p1, _⟩ := I.list h1
        obtain ⟨_, _, p2, _⟩ := I.tuple h2
        exact EqAt.list_tuple p1.isList p2 (by omega)
  | .lst ts, .lst us, b, e, x, y, v, w, A, hx, hy, rx, ry, hu => by
    cases hx with
    | lst h1 hs1 =>
      cases hy with
      | lst h2 hs2 =>
        rename_i a1 xs1 a2 xs2
        cases (show v = Value.ref a1 from rx)
        cases (show w = Value.ref a2 from ry)
        by_cases ne : a1 = a2
        · subst ne
          cases I.list_inj h1 h2
          cases Ats.inj I hs1 hs2
          have : b = true := Tr.eq_self (.lst ts) b e
          rw [this]
          exact EqAt.same _
        · refine EqAt.of_refs ne ?_
          obtain ⟨vs, r1, p1, _⟩ := I.list h1
          obtain ⟨ws, r2, p2, _⟩ := I.list h2
          have l1 := r1.length
          have l2 := r2.length
          have k1 := hs1.len
          have k2 := hs2.len
          by_cases hl : ts.length = us.length
          · have e' : Tr.eqs ts us = some b := by
              have e := e
              simp only [Tr.eq, if_pos hl] at e
              exact e
            have hu' : A.in1.units + Tr.deps ts < cLine := by
              have : A.units + (Tr.deps ts + 1) < cLine := hu
              show A.units + 1 + Tr.deps ts < cLine
              omega
            obtain ⟨f, hf, eb⟩ := eqAts_T I ts us b e' (A := A.in1) hs1 hs2 r1 r2 hu'
            have hl' : vs.length = ws.length := by omega
            have hh := SeqAt.RcAt.lists (s := s) (A := A) (e := f) p1.isList p2.isList (by simpa using hl') (by omega) (fun j k1 k2 => by
              have := hf j (by simpa using k1) (by simpa using k2)
              simpa using this)
            rw [List.size_toArray] at hh
            rw [hl', Nat.min_self] at eb
            simp only [beq_self_eq_true, Bool.and_true] at eb
            rw [hl', ← eb] at hh
            exact hh
          · have e : false = b := by
              simp only [Tr.eq, if_neg hl] at e
              exact Option.some.inj e
            rw [← e]
            refine SeqAt.RcAt.lists_lengths p1.isList p2.isList ?_ (by omega)
            simp only [List.size_toArray, bne_iff_ne, ne_eq]
            omega
  | .non, .dct, b, e, x, y, v, w, A, hx, hy, rx, ry, hu => by
    simp [Tr.eq] at e
  | .bl _, .dct, b, e, x, y, v, w, A, hx, hy, rx, ry, hu => by
    simp [Tr.eq] at e
  | .int _, .dct, b, e, x, y, v, w, A, hx, hy, rx, ry, hu => by
    simp [Tr.eq] at e
  | .lst _, .dct, b, e, x, y, v, w, A, hx, hy, rx, ry, hu => by
    simp [Tr.eq] at e
  | .dct, .non, b, e, x, y, v, w, A, hx, hy, rx, ry, hu => by
    simp [Tr.eq] at e
  | .dct, .bl _, b, e, x, y, v, w, A, hx, hy, rx, ry, hu => by
    simp [Tr.eq] at e
  | .dct, .int _, b, e, x, y, v, w, A, hx, hy, rx, ry, hu => by
    simp [Tr.eq] at e
  | .dct, .tup _, b, e, x, y, v, w, A, hx, hy, rx, ry, hu => by
    simp [Tr.eq] at e
  | .dct, .lst _, b, e, x, y, v, w, A, hx, hy, rx, ry, hu => by
    simp [Tr.eq] at e
  | .dct, .dct, b, e, x, y, v, w, A, hx, hy, rx, ry, hu => by
    simp [Tr.eq] at e
theorem eqAts_T (I : Inv X pins σ H s) : ∀ (ts us : List Tr) (b : Bool), Tr.eqs ts us = some b → ∀ {xs ys : List V} {vs ws : List Value} {A : Around}, Ats X.K H xs ts → Ats X.K H ys us → Vals xs vs → Vals ys ws → A.units + Tr.deps ts < cLine →
    ∃ f : Nat → Bool, (∀ j (h1 : j < vs.length) (h2 : j < ws.length), EqAt A s vs[j] ws[j] (f j)) ∧ b = ((List.range (min vs.length ws.length)).all f && vs.length == ws.length)
  | [], [], b, e, xs, ys, vs, ws, A, hx, hy, rx, ry, hu => by
    cases hx; cases hy; cases rx; cases ry
    cases Option.some.inj (show some true = some b from by simpa [Tr.eqs] using e)
    exact ⟨fun _ => true, fun j h1 => absurd h1 (Nat.not_lt_zero j), rfl⟩
  | [], u :: us, b, e, xs, ys, vs, ws, A, hx, hy, rx, ry, hu => by
    cases hx; cases rx; cases hy; cases ry
    cases Option.some.inj (show some false = some b from by simpa [Tr.eqs] using e)
    exact ⟨fun _ => true, fun j h1 => absurd h1 (Nat.not_lt_zero j), by simp⟩
  | t :: ts, [], b, e, xs, ys, vs, ws, A, hx, hy, rx, ry, hu => by
    cases hx; cases rx; cases hy; cases ry
    cases Option.some.inj (show some false = some b from by simpa [Tr.eqs] using e)
    exact ⟨fun _ => true, fun j _ h2 => absurd h2 (Nat.not_lt_zero j), by simp⟩
  | t :: ts, u :: us, b, e, xs, ys, vs, ws, A, hx, hy, rx, ry, hu => by
    cases hx with
    | cons hx hxs =>
      cases hy with
      | cons hy hys =>
        cases rx with
        | cons rx rxs =>
          cases ry with
          | cons ry rys =>
            simp only [Tr.eqs] at e
            cases e1 : Tr.eq t u with
            | none => rw [e1] at e; simp at e
            | some c =>
              rw [e1] at e
              cases e2 : Tr.eqs ts us with
              | none => rw [e2] at e; simp at e
              | some d =>
                rw [e2] at e
                have e : (c && d) = b := Option.some.inj e
                have hd : A.units + max t.dep (Tr.deps ts) < cLine := hu
                have q1 := eqAt_T I t u c e1 (A := A) hx hy rx ry (by omega)
                obtain ⟨f, hf, eb⟩ := eqAts_T I ts us d e2 (A := A) hxs hys rxs rys (by omega)
                refine ⟨fun j => match j with | 0 => c | j + 1 => f j, fun j h1 h2 => ?_, ?_⟩
                · cases j with
                  | zero => exact q1
                  | succ j => exact hf j (by simpa using h1) (by simpa using h2)
                · rw [← e, eb]
                  simp only [List.length_cons]
                  rw [Nat.add_min_add_right, List.range_succ_eq_map, List.all_cons, List.all_map]
                  simp [Function.comp_def, Bool.and_assoc]
end
end
end L2

set_option maxRecDepth 100000
set_option maxHeartbeats 4000000
namespace L2
open PySem PySem.Spec PyProof.Rows SeqAt
namespace Tr
/-- what in tells -/
def anyEq : List Tr → Tr → Option Bool
  | [], _ => some false
  | t :: ts, u => match eq t u, anyEq ts u with
    | some b, some c => some (b || c)
    | _, _ => none
end Tr
theorem relV_inj {x y : V} {u : Value} (h : RelV x u) (k : RelV y u) : x = y := h.inj k
section
variable {X : Cx} {pins : List (Addr × Obj)} {σ : St} {H : Hp} {s : Shared}
theorem rcAt_T (I : Inv X pins σ H s) : ∀ (t u : Tr) (b : Bool), Tr.eq t u = some b → ∀ {x y : V} {v w : Value} {A : Around}, At X.K H x t → At X.K H y u → RelV x v → RelV y w → A.units + t.dep < cLine → RcAt A s v w b
  | .non, .non, b, e, x, y, v, w, A, hx, hy, rx, ry, hu => by
    cases hx; cases hy; cases rx; cases ry
    cases Option.some.inj e
    exact RcAt.none_none
  | .tup ts, .tup us, b, e, x, y, v, w, A, hx, hy, rx, ry, hu => by
    cases hx with
    | tup h1 hs1 =>
      cases hy with
      | tup h2 hs2 =>
        rename_i a1 xs1 a2 xs2
        cases (show v = Value.ref a1 from rx)
        cases (show w = Value.ref a2 from ry)
        · skip
          obtain ⟨vs, r1, ⟨o1, g1, c1, n1, d1⟩, _⟩ := I.tuple h1
          obtain ⟨ws, r2, ⟨o2, g2, c2, n2, d2⟩, _⟩ := I.tuple h2
          have e' : Tr.eqs ts us = some b := by simpa [Tr.eq] using e
          have hu' : A.in1.units + Tr.deps ts < cLine := by
            have : A.units + (Tr.deps ts + 1) < cLine := hu
            show A.units + 1 + Tr.deps ts < cLine
            omega
          obtain ⟨f, hf, eb⟩ := eqAts_T I ts us b e' (A := A.in1) hs1 hs2 r1 r2 hu'
          have hh := SeqAt.RcAt.tuples (s := s) (A := A) (e := f) ⟨o1, g1, c1, n1, d1⟩ ⟨o2, g2, c2, n2, d2⟩ (by omega) (fun j k1 k2 => by
            have := hf j (by simpa using k1) (by simpa using k2)
            simpa using this)
          rw [List.size_toArray, List.size_toArray, ← eb] at hh
          exact hh
  | .non, .bl q, b, e, x, y, v, w, A, hx, hy, rx, ry, hu => by
    cases hx; cases hy
    cases rx
    cases ry
    cases Option.some.inj e
    exact RcAt.none_bool _
  | .non, .int q, b, e, x, y, v, w, A, hx, hy, rx, ry, hu => by
    cases hx; cases hy
    cases rx
    obtain ⟨_, rfl⟩ := ry
    cases Option.some.inj e
    exact RcAt.none_int _ _
  | .non, .str q, b, e, x, y, v, w, A, hx, hy, rx, ry, hu => by
    cases hx; cases hy
    cases rx
    obtain ⟨_, rfl⟩ := ry
    cases Option.some.inj e
    exact RcAt.none_str _ _
  | .bl p, .non, b, e, x, y, v, w, A, hx, hy, rx, ry, hu => by
    cases hx; cases hy
    cases rx
    cases ry
    cases Option.some.inj e
    exact RcAt.bool_none _
  | .bl p, .bl q, b, e, x, y, v, w, A, hx, hy, rx, ry, hu => by
    cases hx; cases hy
    cases rx
    cases ry
    cases Option.some.inj e
    exact RcAt.bool_bool _ _
  | .bl p, .int q, b, e, x, y, v, w, A, hx, hy, rx, ry, hu => by
    cases hx; cases hy
    cases rx
    obtain ⟨_, rfl⟩ := ry
    cases Option.some.inj e
    exact RcAt.bool_int _ _ _
  | .bl p, .str q, b, e, x, y, v, w, A, hx, hy, rx, ry, hu => by
    cases hx; cases hy
    cases rx
    obtain ⟨_, rfl⟩ := ry
    cases Option.some.inj e
    exact RcAt.bool_str _ _ _
  | .int p, .non, b, e, x, y, v, w, A, hx, hy, rx, ry, hu => by
    cases hx; cases hy
    obtain ⟨_, rfl⟩ := rx
    cases ry
    cases Option.some.inj e
    exact RcAt.int_none _ _
  | .int p, .bl q, b, e, x, y, v, w, A, hx, hy, rx, ry, hu => by
    cases hx; cases hy
    obtain ⟨_, rfl⟩ := rx
    cases ry
    cases Option.some.inj e
    exact RcAt.int_bool _ _ _
  | .int p, .int q, b, e, x, y, v, w, A, hx, hy, rx, ry, hu => by
    cases hx; cases hy
    obtain ⟨_, rfl⟩ := rx
    obtain ⟨_, rfl⟩ := ry
    cases Option.some.inj e
    exact RcAt.int_int _ _ _ _
  | .int p, .str q, b, e, x, y, v, w, A, hx, hy, rx, ry, hu => by
    cases hx; cases hy
    obtain ⟨_, rfl⟩ := rx
    obtain ⟨_, rfl⟩ := ry
    cases Option.some.inj e
    exact RcAt.int_str _ _ _ _
  | .str p, .non, b, e, x, y, v, w, A, hx, hy, rx, ry, hu => by
    cases hx; cases hy
    obtain ⟨_, rfl⟩ := rx
    cases ry
    cases Option.some.inj e
    exact RcAt.str_none _ _
  | .str p, .bl q, b, e, x, y, v, w, A, hx, hy, rx, ry, hu => by
    cases hx; cases hy
    obtain ⟨_, rfl⟩ := rx
    cases ry
    cases Option.some.inj e
    exact RcAt.str_bool _ _ _
  | .str p, .int q, b, e, x, y, v, w, A, hx, hy, rx, ry, hu => by
    cases hx; cases hy
    obtain ⟨_, rfl⟩ := rx
    obtain ⟨_, rfl⟩ := ry
    cases Option.some.inj e
    exact RcAt.str_int _ _ _ _
  | .str p, .str q, b, e, x, y, v, w, A, hx, hy, rx, ry, hu => by
    cases hx; cases hy
    obtain ⟨_, rfl⟩ := rx
    obtain ⟨_, rfl⟩ := ry
    cases Option.some.inj e
    exact RcAt.str_str _ _ _ _
  | .non, .tup q, b, e, x, y, v, w, A, hx, hy, rx, ry, hu => by
    cases hx
    cases hy with
    | tup h2 hs2 =>
      rename_i a2 xs2
      cases rx
      cases (show w = Value.ref a2 from ry)
      cases Option.some.inj e
      obtain ⟨_, _, pl, _⟩ := I.tuple h2
      exact RcAt.none_tuple  pl (by omega)
  | .tup q, .non, b, e, x, y, v, w, A, hx, hy, rx, ry, hu => by
    cases hy
    cases hx with
    | tup h1 hs1 =>
      rename_i a1 xs1
      cases ry
      cases (show v = Value.ref a1 from rx)
      cases Option.some.inj e
      obtain ⟨_, _, pl, _⟩ := I.tuple h1
      exact RcAt.tuple_none  pl (by omega)
  | .non, .lst q, b, e, x, y, v, w, A, hx, hy, rx, ry, hu => by
    cases hx
    cases hy with
    | lst h2 hs2 =>
      rename_i a2 xs2
      cases rx
      cases (show w = Value.ref a2 from ry)
      cases Option.some.inj e
      obtain ⟨_, _, pl, _⟩ := I.list h2
      exact RcAt.none_list  pl.isList (by omega)
  | .lst q, .non, b, e, x, y, v, w, A, hx, hy, rx, ry, hu => by
    cases hy
    cases hx with
    | lst h1 hs1 =>
      rename_i a1 xs1
      cases ry
      cases (show v = Value.ref a1 from rx)
      cases Option.some.inj e
      obtain ⟨_, _, pl, _⟩ := I.list h1
      exact RcAt.list_none  pl.isList (by omega)
  | .bl p, .tup q, b, e, x, y, v, w, A, hx, hy, rx, ry, hu => by
    cases hx
    cases hy with
    | tup h2 hs2 =>
      rename_i a2 xs2
      cases rx
      cases (show w = Value.ref a2 from ry)
      cases Option.some.inj e
      obtain ⟨_, _, pl, _⟩ := I.tuple h2
      exact RcAt.bool_tuple _ pl (by omega)
  | .tup q, .bl p, b, e, x, y, v, w, A, hx, hy, rx, ry, hu => by
    cases hy
    cases hx with
    | tup h1 hs1 =>
      rename_i a1 xs1
      cases ry
      cases (show v = Value.ref a1 from rx)
      cases Option.some.inj e
      obtain ⟨_, _, pl, _⟩ := I.tuple h1
      exact RcAt.tuple_bool _ pl (by omega)
  | .bl p, .lst q, b, e, x, y, v, w, A, hx, hy, rx, ry, hu => by
    cases hx
    cases hy with
    | lst h2 hs2 =>
      rename_i a2 xs2
      cases rx
      cases (show w = Value.ref a2 from ry)
      cases Option.some.inj e
      obtain ⟨_, _, pl, _⟩ := I.list h2
      exact RcAt.bool_list _ pl.isList (by omega)
  | .lst q, .bl p, b, e, x, y, v, w, A, hx, hy, rx, ry, hu => by
    cases hy
    cases hx with
    | lst h1 hs1 =>
      rename_i a1 xs1
      cases ry
      cases (show v = Value.ref a1 from rx)
      cases Option.some.inj e
      obtain ⟨_, _, pl, _⟩ := I.list h1
      exact RcAt.list_bool _ pl.isList (by omega)
  | .int p, .tup q, b, e, x, y, v, w, A, hx, hy, rx, ry, hu => by
    cases hx
    cases hy with
    | tup h2 hs2 =>
      rename_i a2 xs2
      obtain ⟨_, rfl⟩ := rx
      cases (show w = Value.ref a2 from ry)
      cases Option.some.inj e
      obtain ⟨_, _, pl, _⟩ := I.tuple h2
      exact RcAt.int_tuple _ _ pl (by omega)
  | .tup q, .int p, b, e, x, y, v, w, A, hx, hy, rx, ry, hu => by
    cases hy
    cases hx with
    | tup h1 hs1 =>
      rename_i a1 xs1
      obtain ⟨_, rfl⟩ := ry
      cases (show v = Value.ref a1 from rx)
      cases Option.some.inj e
      obtain ⟨_, _, pl, _⟩ := I.tuple h1
      exact RcAt.tuple_int _ _ pl (by omega)
  | .int p, .lst q, b, e, x, y, v, w, A, hx, hy, rx, ry, hu => by
    cases hx
    cases hy with
    | lst h2 hs2 =>
      rename_i a2 xs2
      obtain ⟨_, rfl⟩ := rx
      cases (show w = Value.ref a2 from ry)
      cases Option.some.inj e
      obtain ⟨_, _, pl, _⟩ := I.list h2
      exact RcAt.int_list _ _ pl.isList (by omega)
  | .lst q, .int p, b, e, x, y, v, w, A, hx, hy, rx, ry, hu => by
    cases hy
    cases hx with
    | lst h1 hs1 =>
      rename_i a1 xs1
      obtain ⟨_, rfl⟩ := ry
      cases (show v = Value.ref a1 from rx)
      cases Option.some.inj e
      obtain ⟨_, _, pl, _⟩ := I.list h1
      exact RcAt.list_int _ _ pl.isList (by omega)
  | .str p, .tup q, b, e, x, y, v, w, A, hx, hy, rx, ry, hu => by
    cases hx
    cases hy with
    | tup h2 hs2 =>
      rename_i a2 xs2
      obtain ⟨_, rfl⟩ := rx
      cases (show w = Value.ref a2 from ry)
      cases Option.some.inj e
      obtain ⟨_, _, pl, _⟩ := I.tuple h2
      exact RcAt.str_tuple _ _ pl (by omega)
  | .tup q, .str p, b, e, x, y, v, w, A, hx, hy, rx, ry, hu => by
    cases hy
    cases hx with
    | tup h1 hs1 =>
      rename_i a1 xs1
      obtain ⟨_, rfl⟩ := ry
      cases (show v = Value.ref a1 from rx)
      cases Option.some.inj e
      obtain ⟨_, _, pl, _⟩ := I.tuple h1
      exact RcAt.tuple_str _ _ pl (by omega)
  | .str p, .lst q, b, e, x, y, v, w, A, hx, hy, rx, ry, hu => by
    cases hx
    cases hy with
    | lst h2 hs2 =>
      rename_i a2 xs2
      obtain ⟨_, rfl⟩ := rx
      cases (show w = Value.ref a2 from ry)
      cases Option.some.inj e
      obtain ⟨_, _, pl, _⟩ := I.list h2
      exact RcAt.str_list _ _ pl.isList (by omega)
  | .lst q, .str p, b, e, x, y, v, w, A, hx, hy, rx, ry, hu => by
    cases hy
    cases hx with
    | lst h1 hs1 =>
      rename_i a1 xs1
      obtain ⟨_, rfl⟩ := ry
      cases (show v = Value.ref a1 from rx)
      cases Option.some.inj e
      obtain ⟨_, _, pl, _⟩ := I.list h1
      exact RcAt.list_str _ _ pl.isList (by omega)
  | .str p, .dct, b, e, x, y, v, w, A, hx, hy, rx, ry, hu => by
    cases hx
    cases hy with
    | dct h2 =>
      rename_i a2 xs2
      obtain ⟨_, rfl⟩ := rx
      cases (show w = Value.ref a2 from ry)
      cases Option.some.inj e
      exact RcAt.str_dict _ _ (I.isDct h2) (by omega)
  | .dct, .str p, b, e, x, y, v, w, A, hx, hy, rx, ry, hu => by
    cases hy
    cases hx with
    | dct h1 =>
      rename_i a1 xs1
      obtain ⟨_, rfl⟩ := ry
      cases (show v = Value.ref a1 from rx)
      cases Option.some.inj e
      exact RcAt.dict_str _ _ (I.isDct h1) (by omega)
  | .tup ts, .dct, b, e, x, y, v, w, A, hx, hy, rx, ry, hu => by
    cases hy with
    | dct h2 =>
      rename_i a2 xs2
      cases hx with
      | tup h1 hs1 =>
        rename_i a1 xs1
        cases (show v = Value.ref a1 from rx)
        cases (show w = Value.ref a2 from ry)
        cases Option.some.inj e
        obtain ⟨_, _, pl, _⟩ := I.tuple h1
        exact RcAt.tuple_dict pl (I.isDct h2) (by omega)
  | .tup ts, .lst us, b, e, x, y, v, w, A, hx, hy, rx, ry, hu => by
    cases hy with
    | lst h2 hs2 =>
      rename_i a2 xs2
      cases hx with
      | tup h1 hs1 =>
        rename_i a1 xs1
        cases (show v = Value.ref a1 from rx)
        cases (show w = Value.ref a2 from ry)
        cases Option.some.inj e
        obtain ⟨_, _, p1, _⟩ := I.tuple h1
        obtain ⟨_, _, p2, _⟩ := I.list h2
        exact RcAt.tuple_list p1 p2.isList (by omega)
  | .lst ts, .tup us, b, e, x, y, v, w, A, hx, hy, rx, ry, hu => by
    cases hy with
    | tup h2 hs2 =>
      rename_i a2 xs2
      cases hx with
      | lst h1 hs1 =>
        rename_i a1 xs1
        cases (show v = Value.ref a1 from rx)
        cases (show w = Value.ref a2 from ry)
        cases Option.some.inj e
        obtain ⟨_, _, p1, _⟩ := I.list h1
        obtain ⟨_, _, p2, _⟩ := I.tuple h2
        exact RcAt.list_tuple p1.isList p2 (by omega)
  | .lst ts, .lst us, b, e, x, y, v, w, A, hx, hy, rx, ry, hu => by
    cases hx with
    | lst h1 hs1 =>
      cases hy with
      | lst h2 hs2 =>
        rename_i a1 xs1 a2 xs2
        cases (show v = Value.ref a1 from rx)
        cases (show w = Value.ref a2 from ry)
        · skip
          obtain ⟨vs, r1, p1, _⟩ := I.list h1
          obtain ⟨ws, r2, p2, _⟩ := I.list h2
          have l1 := r1.length
          have l2 := r2.length
          have k1 := hs1.len
          have k2 := hs2.len
          by_cases hl : ts.length = us.length
          · have e' : Tr.eqs ts us = some b := by
              have e := e
              simp only [Tr.eq, if_pos hl] at e
              exact e
            have hu' : A.in1.units + Tr.deps ts < cLine := by
              have : A.units + (Tr.deps ts + 1) < cLine := hu
              show A.units + 1 + Tr.deps ts < cLine
              omega
            obtain ⟨f, hf, eb⟩ := eqAts_T I ts us b e' (A := A.in1) hs1 hs2 r1 r2 hu'
            have hl' : vs.length = ws.length := by omega
            have hh := SeqAt.RcAt.lists (s := s) (A := A) (e := f) p1.isList p2.isList (by simpa using hl') (by omega) (fun j k1 k2 => by
              have := hf j (by simpa using k1) (by simpa using k2)
              simpa using this)
            rw [List.size_toArray] at hh
            rw [hl', Nat.min_self] at eb
            simp only [beq_self_eq_true, Bool.and_true] at eb
            rw [hl', ← eb] at hh
            exact hh
          · have e : false = b := by
              simp only [Tr.eq, if_neg hl] at e
              exact Option.some.inj e
            rw [← e]
            refine SeqAt.RcAt.lists_lengths p1.isList p2.isList ?_ (by omega)
            simp only [List.size_toArray, bne_iff_ne, ne_eq]
            omega
  | .non, .dct, b, e, x, y, v, w, A, hx, hy, rx, ry, hu => by
    simp [Tr.eq] at e
  | .bl _, .dct, b, e, x, y, v, w, A, hx, hy, rx, ry, hu => by
    simp [Tr.eq] at e
  | .int _, .dct, b, e, x, y, v, w, A, hx, hy, rx, ry, hu => by
    simp [Tr.eq] at e
  | .lst _, .dct, b, e, x, y, v, w, A, hx, hy, rx, ry, hu => by
    simp [Tr.eq] at e
  | .dct, .non, b, e, x, y, v, w, A, hx, hy, rx, ry, hu => by
    simp [Tr.eq] at e
  | .dct, .bl _, b, e, x, y, v, w, A, hx, hy, rx, ry, hu => by
    simp [Tr.eq] at e
  | .dct, .int _, b, e, x, y, v, w, A, hx, hy, rx, ry, hu => by
    simp [Tr.eq] at e
  | .dct, .tup _, b, e, x, y, v, w, A, hx, hy, rx, ry, hu => by
    simp [Tr.eq] at e
  | .dct, .lst _, b, e, x, y, v, w, A, hx, hy, rx, ry, hu => by
    simp [Tr.eq] at e
  | .dct, .dct, b, e, x, y, v, w, A, hx, hy, rx, ry, hu => by
    simp [Tr.eq] at e

theorem in_T (I : Inv X pins σ H s) {u : Tr} {x : V} {w : Value} {A : Around} (hx : At X.K H x u) (rx : RelV x w) : ∀ {ts : List Tr} {b : Bool} {xs : List V} {vs : List Value}, Tr.anyEq ts u = some b → Ats X.K H xs ts → Vals xs vs → A.units + Tr.deps ts < cLine →
    ∃ e : Value → Bool, (∀ v ∈ vs, EqAt A s v w (e v)) ∧ vs.any e = b ∧ ∀ v, v ∈ vs → ∀ (y : V) (t : Tr), RelV y v → At X.K H y t → Tr.eq t u = some (e v)
  | [], b, xs, vs, h, hs, r, _ => by
    cases hs; cases r
    cases Option.some.inj (show some false = some b from by simpa [Tr.anyEq] using h)
    exact ⟨fun _ => false, (fun v hv => by cases hv), rfl, (fun v hv => by cases hv)⟩
  | t :: ts, b, xs, vs, h, hs, r, hu => by
    cases hs with
    | cons ht hts =>
      cases r with
      | cons rt rts =>
        rename_i x0 xs0 v0 vs0
        simp only [Tr.anyEq] at h
        cases e1 : Tr.eq t u with
        | none => rw [e1] at h; simp at h
        | some c =>
          rw [e1] at h
          cases e2 : Tr.anyEq ts u with
          | none => rw [e2] at h; simp at h
          | some d =>
            rw [e2] at h
            have h : (c || d) = b := Option.some.inj h
            have hd : A.units + max t.dep (Tr.deps ts) < cLine := hu
            have q1 := eqAt_T I t u c e1 (A := A) ht hx rt rx (by omega)
            obtain ⟨e, he, ea, ei⟩ := in_T I hx rx (A := A) e2 hts rts (by omega)
            classical
            have inn : v0 ∈ vs0 → e v0 = c := fun hm => by
              have := ei v0 hm x0 t rt ht
              rw [e1] at this
              exact (Option.some.inj this).symm
            refine ⟨fun v => if v = v0 then c else e v, fun v hv => ?_, ?_, fun v hv y t' ry hy => ?_⟩
            · show EqAt A s v w (if v = v0 then c else e v)
              by_cases q : v = v0
              · rw [if_pos q, q]; exact q1
              · rw [if_neg q]
                rcases List.mem_cons.mp hv with z | z
                · exact absurd z q
                · exact he v z
            · rw [List.any_cons, if_pos rfl, ← h]
              have : vs0.any (fun v => if v = v0 then c else e v) = vs0.any e := by
                apply Bool.eq_iff_iff.mpr
                simp only [List.any_eq_true]
                constructor
                · rintro ⟨v, hv, q⟩
                  refine ⟨v, hv, ?_⟩
                  by_cases z : v = v0
                  · rw [if_pos z] at q
                    rw [z, inn (z ▸ hv)]
                    exact q
                  · rw [if_neg z] at q
                    exact q
                · rintro ⟨v, hv, q⟩
                  refine ⟨v, hv, ?_⟩
                  by_cases z : v = v0
                  · rw [if_pos z, ← inn (z ▸ hv), ← z]
                    exact q
                  · rw [if_neg z]
                    exact q
              rw [this, ea]
            · show Tr.eq t' u = some (if v = v0 then c else e v)
              by_cases q : v = v0
              · rw [if_pos q]
                rw [q] at ry
                cases relV_inj ry rt
                rw [At.inj I hy ht]
                exact e1
              · rw [if_neg q]
                rcases List.mem_cons.mp hv with z | z
                · exact absurd z q
                · exact ei v z y t' ry hy
end
section
variable {X : Cx}
def rEqT (K : PySem.W.Frag) : R2 := fun x y H Q => ∃ t u b, At K H x t ∧ At K H y u ∧ Tr.eq t u = some b ∧ t.dep ≤ 60 ∧ Q (.bl b) H
theorem op_eqT (hu : X.A.units + 64 < cLine) : OpR X (compareOp .Eq) (rEqT X.K) := by
  intro pins s σ H x y v u Q I rx ry h
  obtain ⟨t, t', b, hx, hy, e, d, q⟩ := h
  exact rcAt_T I t t' b e hx hy rx ry (by omega) X.prog X.w _ _ ⟨.bl b, H, I, rfl, q⟩
def rInT (K : PySem.W.Frag) : R2 := fun x y H Q => ∃ u ts b, At K H x u ∧ At K H y (.lst ts) ∧ Tr.anyEq ts u = some b ∧ Tr.deps ts ≤ 60 ∧ Q (.bl b) H
def rNotInT (K : PySem.W.Frag) : R2 := fun x y H Q => ∃ u ts b, At K H x u ∧ At K H y (.lst ts) ∧ Tr.anyEq ts u = some b ∧ Tr.deps ts ≤ 60 ∧ Q (.bl (!b)) H
theorem op_inT (hu : X.A.units + 65 < cLine) : OpR X (compareOp .In) (rInT X.K) := by
  intro pins s σ H x y v u Q I rx ry h
  obtain ⟨t, ts, b, hx, hy, e, d, q⟩ := h
  cases hy with
  | lst hl hs =>
    rename_i a xs
    cases (show u = Value.ref a from ry)
    obtain ⟨vs, r, p, _⟩ := I.list hl
    obtain ⟨f, hf, ef, _⟩ := in_T I hx rx (A := X.A.in1) e hs r (by show X.A.units + 1 + _ < cLine; omega)
    refine SeqAt.in_listAt f p.isList (fun y hy => hf y (by simpa using hy)) ?_
    rw [show vs.toArray.any f = b from by rw [← ef]; simp]
    exact ⟨.bl b, H, I, rfl, q⟩
theorem op_notInT (hu : X.A.units + 65 < cLine) : OpR X (compareOp .NotIn) (rNotInT X.K) := by
  intro pins s σ H x y v u Q I rx ry h
  obtain ⟨t, ts, b, hx, hy, e, d, q⟩ := h
  cases hy with
  | lst hl hs =>
    rename_i a xs
    cases (show u = Value.ref a from ry)
    obtain ⟨vs, r, p, _⟩ := I.list hl
    obtain ⟨f, hf, ef, _⟩ := in_T I hx rx (A := X.A.in1) e hs r (by show X.A.units + 1 + _ < cLine; omega)
    refine SeqAt.notIn_listAt f p.isList (fun y hy => hf y (by simpa using hy)) ?_
    rw [show vs.toArray.any f = b from by rw [← ef]; simp]
    exact ⟨.bl (!b), H, I, rfl, q⟩
end
end L2

set_option maxRecDepth 100000
set_option maxHeartbeats 4000000
/-! Of a thing's tree: its type; texts of no great length. -/
namespace L2
open PySem PySem.Spec PyProof.Rows
namespace Tr
mutual
def fine : Tr → Bool
  | .str z => decide (z.length ≤ 1000) && PyData.canLay0 (.str z)
  | .tup ts => decide (ts.length ≤ 1000) && fines ts
  | .lst ts => decide (ts.length ≤ 1000) && fines ts
  | _ => true
def fines : List Tr → Bool
  | [] => true
  | t :: ts => fine t && fines ts
end
theorem fines_all : ∀ {ts : List Tr}, fines ts = true → ∀ t ∈ ts, fine t = true
  | t :: ts, h, u, hu => by
    have h : (fine t && fines ts) = true := h
    rw [Bool.and_eq_true] at h
    rcases List.mem_cons.mp hu with e | e
    · rw [e]; exact h.1
    · exact fines_all h.2 u e
theorem fine_str {z : Str} (h : fine (.str z) = true) : z.length ≤ 1000 ∧ PyData.canLay0 (.str z) = true := by
  have h : (decide (z.length ≤ 1000) && PyData.canLay0 (.str z)) = true := by simpa [fine] using h
  rw [Bool.and_eq_true] at h
  exact ⟨of_decide_eq_true h.1, h.2⟩
theorem fine_tup {ts : List Tr} (h : fine (.tup ts) = true) : ts.length ≤ 1000 ∧ fines ts = true := by
  have h : (decide (ts.length ≤ 1000) && fines ts) = true := by simpa [fine] using h
  rw [Bool.and_eq_true] at h
  exact ⟨of_decide_eq_true h.1, h.2⟩
theorem fine_lst {ts : List Tr} (h : fine (.lst ts) = true) : ts.length ≤ 1000 ∧ fines ts = true := by
  have h : (decide (ts.length ≤ 1000) && fines ts) = true := by simpa [fine] using h
  rw [Bool.and_eq_true] at h
  exact ⟨of_decide_eq_true h.1, h.2⟩
theorem fines_of : ∀ {ts : List Tr}, (∀ t ∈ ts, fine t = true) → fines ts = true
  | [], _ => rfl
  | t :: ts, h => by
    show (fine t && fines ts) = true
    rw [h t (List.mem_cons_self ..), fines_of fun u hu => h u (List.mem_cons_of_mem _ hu)]
    rfl
/-- the texts, if all are -/
def strs? : List Tr → Option (List Str)
  | [] => some []
  | .str z :: l => (strs? l).map (z :: ·)
  | _ :: _ => none
theorem strs_map : ∀ ws : List Str, strs? (ws.map .str) = some ws
  | [] => rfl
  | w :: ws => by
    show (strs? (ws.map .str)).map (w :: ·) = _
    rw [strs_map ws]
    rfl
theorem strs_some : ∀ {ts : List Tr} {ws : List Str}, strs? ts = some ws → ts = ws.map .str
  | [], ws, h => by cases h; rfl
  | .str z :: l, ws, h => by
    have h : (strs? l).map (z :: ·) = some ws := h
    obtain ⟨u, hu, rfl⟩ := Option.map_eq_some_iff.mp h
    rw [strs_some hu]
    rfl
  | .non :: _, _, h => by cases h
  | .bl _ :: _, _, h => by cases h
  | .int _ :: _, _, h => by cases h
  | .dct :: _, _, h => by cases h
  | .tup _ :: _, _, h => by cases h
  | .lst _ :: _, _, h => by cases h
def wordT (t : Tr) (ws : List Str) : Bool := match t with
  | .str z => ws.contains z
  | _ => false
end Tr
section
variable {K : PySem.W.Frag} {H : Hp} {a : Addr} {xs : List V} {x : V} {t : Tr} {ts : List Tr}
theorem sqT_ty (h : SqT K H a xs) : TyX K H (.ref a) (.type "tuple") := by
  rcases h with (h | ⟨o, h⟩) | ⟨o, its, n, h1, h2, _⟩
  · exact .base (.tup h)
  · exact .fTuple h
  · exact .kTuple h1 h2
theorem sqL_ty (h : SqL K H a xs) : TyX K H (.ref a) (.type "list") := by
  rcases h with (h | ⟨o, h⟩) | ⟨o, its, n, h1, h2, _⟩
  · exact .base (.lst h)
  · exact .base (.frz h)
  · exact .kList h1 h2
/-- a type that is neither str nor .. -/
def Ty1 (t : Tr) : String := match t with
  | .non => "NoneType"
  | .bl _ => "bool"
  | .int _ => "int"
  | .str _ => "str"
  | .dct => "dict"
  | .tup _ => "tuple"
  | .lst _ => "list"
theorem At.ty (h : At K H x t) : TyX K H x (.type (Ty1 t)) := by
  cases h with
  | non => exact .base .non
  | bl => exact .base (.bl _)
  | int => exact .base (.int _)
  | str => exact .base (.str _)
  | dct h => exact .base (.dK h)
  | tup h _ => exact sqT_ty h
  | lst h _ => exact sqL_ty h
theorem kitS (K : PySem.W.Frag) : ∀ a ∈ ["NoneType", "bool", "int", "dict", "tuple", "list"], PySem.W.kitOne K (.type a) (.type "str") = some false := by
  intro a h
  simp only [List.mem_cons, List.not_mem_nil, or_false] at h
  rcases h with rfl | rfl | rfl | rfl | rfl | rfl <;> exact kit_ty (by decide +kernel)
theorem kitT (K : PySem.W.Frag) : ∀ a ∈ ["NoneType", "bool", "int", "dict", "str", "list"], PySem.W.kitOne K (.type a) (.type "tuple") = some false := by
  intro a h
  simp only [List.mem_cons, List.not_mem_nil, or_false] at h
  rcases h with rfl | rfl | rfl | rfl | rfl | rfl <;> exact kit_ty (by decide +kernel)
theorem noTup {t : Tr} (h : ∀ us, t ≠ .tup us) (K : PySem.W.Frag) : PySem.W.kitOne K (.type (Ty1 t)) (.type "tuple") = some false := by
  refine kitT K _ ?_
  cases t with
  | tup us => exact absurd rfl (h us)
  | _ => simp [Ty1]
theorem noStr {t : Tr} (h : ∀ z, t ≠ .str z) (K : PySem.W.Frag) : PySem.W.kitOne K (.type (Ty1 t)) (.type "str") = some false := by
  refine kitS K _ ?_
  cases t with
  | str us => exact absurd rfl (h us)
  | _ => simp [Ty1]
theorem At.noTx (h : At K H x t) (n : ∀ z, t ≠ .str z) : NoTx K H x := fun _ s => ⟨_, (h.same s).ty, noStr n K⟩
theorem Ats.mem : ∀ {xs : List V} {ts : List Tr}, Ats K H xs ts → ∀ x ∈ xs, ∃ t, t ∈ ts ∧ At K H x t
  | _, _, .nil, _, h => nomatch h
  | _, _, .cons h hs, y, hy => by
    rcases List.mem_cons.mp hy with e | e
    · rw [e]
      exact ⟨_, List.mem_cons_self .., h⟩
    · obtain ⟨t, h1, h2⟩ := hs.mem y e
      exact ⟨t, List.mem_cons_of_mem _ h1, h2⟩
theorem Ats.get : ∀ {xs : List V} {ts : List Tr}, Ats K H xs ts → ∀ {i : Nat} {x : V}, xs[i]? = some x → ∃ t, ts[i]? = some t ∧ At K H x t
  | _, _, .nil, i, _, h => by simp at h
  | _, _, .cons h hs, 0, x, e => by
    simp at e
    subst e
    exact ⟨_, rfl, h⟩
  | _, _, .cons h hs, i + 1, x, e => by
    obtain ⟨t, h1, h2⟩ := hs.get (i := i) (by simpa using e)
    exact ⟨t, by simpa using h1, h2⟩
theorem Ats.app : ∀ {xs : List V} {ts : List Tr} {ys : List V} {us : List Tr}, Ats K H xs ts → Ats K H ys us → Ats K H (xs ++ ys) (ts ++ us)
  | _, _, _, _, .nil, h => h
  | _, _, _, _, .cons h hs, k => .cons h (hs.app k)
theorem Ats.unapp : ∀ {ts : List Tr} {xs : List V} {us : List Tr}, Ats K H xs (ts ++ us) → ∃ ys zs, xs = ys ++ zs ∧ Ats K H ys ts ∧ Ats K H zs us
  | [], xs, us, h => ⟨[], xs, rfl, .nil, h⟩
  | t :: ts, _, us, .cons h hs => by
    obtain ⟨ys, zs, rfl, h1, h2⟩ := Ats.unapp hs
    exact ⟨_ :: ys, zs, rfl, .cons h h1, h2⟩
theorem Ats.strs : ∀ ws : List Str, Ats K H (ws.map V.str) (ws.map Tr.str)
  | [] => .nil
  | w :: ws => .cons .str (Ats.strs ws)
theorem Ats.unstrs : ∀ {ws : List Str} {xs : List V}, Ats K H xs (ws.map Tr.str) → xs = ws.map V.str
  | [], _, .nil => rfl
  | w :: ws, _, .cons h hs => by
    cases h
    rw [hs.unstrs]
    rfl
theorem Ats.told (h : Ats K H xs ts) (f : Tr.fines ts = true) : Told K H xs := fun x hx => by
  obtain ⟨t, ht, at_⟩ := h.mem x hx
  have ft := Tr.fines_all f t ht
  cases t with
  | str z =>
    cases at_
    exact .inl ⟨z, rfl, Tr.fine_str ft⟩
  | non => exact .inr (at_.noTx fun z e => (nomatch e))
  | bl b => exact .inr (at_.noTx fun z e => (nomatch e))
  | int i => exact .inr (at_.noTx fun z e => (nomatch e))
  | dct => exact .inr (at_.noTx fun z e => (nomatch e))
  | tup us => exact .inr (at_.noTx fun z e => (nomatch e))
  | lst us => exact .inr (at_.noTx fun z e => (nomatch e))
theorem Ats.txs : ∀ {xs : List V} {ts : List Tr}, Ats K H xs ts → txs? xs = Tr.strs? ts
  | _, _, .nil => rfl
  | _, _, .cons (t := t) h hs => by
    cases h with
    | str =>
      show (txs? _).map _ = (Tr.strs? _).map _
      rw [hs.txs]
    | _ => rfl
end
end L2

set_option maxRecDepth 100000
set_option maxHeartbeats 4000000
/-! A comprehension over zip of two tuples of one length; a tuple without its first, or its last item; x in a tuple of any items. -/
namespace RZ
open PySem PySem.Spec PyProof.Rows L2
theorem lc_zipT {K : PySem.W.Frag} {a b : Addr} {xs ys : List V} {g : TG} {tt : TT} {te : TE} {vs : List Nat} {σ : L2.St} {H1 : Hp} {D : Addr} {Qd : Hp → Prop} (hl : xs.length = ys.length) (Pv : Nat → Hp → Prop) (h0 : Pv 0 (upd H1 D (.lst [])))
    (hq : ∀ i H, Pv i H → SqT K H a xs ∧ SqT K H b ys)
    (hs : ∀ (i : Nat) (x y : V) (T : Addr) (H : Hp), xs[i]? = some x → ys[i]? = some y → Pv i H → H T = none → g (.ref T) (wipe σ vs) (upd H T (.tup [x, y])) fun σ2 H2 => wipe σ2 vs = wipe σ vs ∧ tt σ2 H2 fun c H3 =>
      if c = true then te σ2 H3 fun z H4 => ∃ acc, H4 D = some (.lst acc) ∧ acc.length < sizeLine ∧ Pv (i + 1) (upd H4 D (.lst (acc ++ [z]))) else Pv (i + 1) H3)
    (hd : ∀ H, Pv xs.length H → Qd H) :
    ∃ W : Nat → Nat → Hp → Prop, (∃ m, W 0 m (upd H1 D (.lst []))) ∧ ∀ i m H, W i m H →
      ((ItzT K a b).stop i H ∧ Qd H) ∨ ((ItzT K a b).go i H ∧ ∃ Nx : Hp → Prop, (∀ H', Nx H' → ∃ m', m' < m ∧ W (i + 1) m' H') ∧ ∀ x H', (ItzT K a b).yld i H x H' → g x (wipe σ vs) H' fun σ2 H2 => wipe σ2 vs = wipe σ vs ∧ tt σ2 H2 fun c H3 =>
        if c = true then te σ2 H3 fun z H4 => ∃ acc, H4 D = some (.lst acc) ∧ acc.length < sizeLine ∧ Nx (upd H4 D (.lst (acc ++ [z]))) else Nx H3) := by
  refine ⟨fun i m H => m + i = xs.length ∧ Pv i H, ⟨xs.length, Nat.add_zero _, h0⟩, fun i m H ⟨e, p⟩ => ?_⟩
  obtain ⟨qx, qy⟩ := hq i H p
  cases m with
  | zero =>
    have e' : i = xs.length := by omega
    subst e'
    exact .inl ⟨⟨xs, ys, qx, qy, .inl (Nat.le_refl _)⟩, hd H p⟩
  | succ m =>
    have l1 : i < xs.length := by omega
    have l2 : i < ys.length := by omega
    refine .inr ⟨⟨xs, ys, xs[i], ys[i], qx, qy, List.getElem?_eq_getElem l1, List.getElem?_eq_getElem l2⟩, Pv (i + 1), fun H' p' => ⟨m, Nat.lt_succ_self m, by omega, p'⟩, fun v H' y => ?_⟩
    obtain ⟨T, x', y', rfl, hT, rfl, f1, f2⟩ := y
    exact hs i x' y' T H (f1 xs qx) (f2 ys qy) p hT
theorem cut1 {x : V} {ys : List V} : cutV (x :: ys) (some 1) none = ys := by
  unfold cutV
  have e : HT.sIx (x :: ys).length 0 (some 1) = 1 := by
    show min 1 (x :: ys).length = 1
    rw [List.length_cons]
    omega
  rw [e]
  show (List.drop 1 (x :: ys)).take ((x :: ys).length - 1) = ys
  simp
theorem not1 {x : V} {ys : List V} {d : Option Int} : ¬ (HT.sIx (x :: ys).length 0 (some 1) = 0 ∧ HT.sIx (x :: ys).length (x :: ys).length d = (x :: ys).length) := fun h => by
  have e : HT.sIx (x :: ys).length 0 (some 1) = 1 := by
    show min 1 (x :: ys).length = 1
    rw [List.length_cons]
    omega
  rw [e] at h
  exact absurd h.1 (by decide)
theorem sxL {xs : List V} {z : V} : HT.sIx (xs ++ [z]).length (xs ++ [z]).length (some (-1)) = xs.length := by
  show ((-1 : Int) + ((xs ++ [z]).length : Int)).toNat = xs.length
  rw [List.length_append, List.length_singleton]
  omega
theorem cutL {xs : List V} {z : V} : cutV (xs ++ [z]) none (some (-1)) = xs := by
  unfold cutV
  rw [sxL]
  show (List.drop 0 (xs ++ [z])).take (xs.length - 0) = xs
  simp
theorem notL {xs : List V} {z : V} : ¬ (HT.sIx (xs ++ [z]).length 0 none = 0 ∧ HT.sIx (xs ++ [z]).length (xs ++ [z]).length (some (-1)) = (xs ++ [z]).length) := fun h => by
  rw [sxL, List.length_append, List.length_singleton] at h
  omega
theorem at0 {x : V} {ys : List V} : atI (x :: ys) 0 = some x := by
  unfold atI ixN
  rw [if_pos (by decide), if_pos (by rw [List.length_cons]; omega)]
  rfl
theorem atL {xs : List V} {z : V} : atI (xs ++ [z]) (-1) = some z := by
  unfold atI ixN
  rw [if_neg (by decide)]
  have e : ((xs ++ [z]).length : Int) = (xs.length : Int) + 1 := by simp
  rw [e, if_pos (by omega)]
  have e2 : ((-1 : Int) + ((xs.length : Int) + 1)).toNat = xs.length := by omega
  show (xs ++ [z])[((-1 : Int) + ((xs.length : Int) + 1)).toNat]? = some z
  rw [e2]
  simp
/-- x in a tuple, items of any depth -/
def rInDT (K : PySem.W.Frag) : R2 := fun x y H Q => ∃ d ds, Dp K H x d ∧ Dp K H y (.tuple ds) ∧ SeqAt.shaped d = true ∧ SeqAt.shaped (.tuple ds) = true ∧ Q (.bl (ds.any fun z => PyData.eqv z d)) H
theorem op_inDT {X : Cx} (hu : X.A.units + 65 < cLine) : OpR X (compareOp .In) (rInDT X.K) := by
  intro pins s σ H x y v u Q I rx ry h
  obtain ⟨d, ds, hd, he, sd, se, q⟩ := h
  obtain ⟨as, r1⟩ := Dp.reads I d x v hd rx
  obtain ⟨bs, r2⟩ := Dp.reads I (.tuple ds) y u he ry
  have lay : PyData.canLayAll0 ds = true := by
    have := SeqAt.canLay_of_shaped se
    unfold PyData.canLay0 at this
    exact this
  exact SeqAt.in_tuple_reads r2 r1 lay (SeqAt.canLay_of_shaped sd) (room_in_shaped sd hu) ⟨.bl _, H, I, rfl, q⟩
/-- d[k] of a written dict with text keys -/
theorem ix_kd {X : Cx} {d : Addr} {es : Array DictEntry} {n : Nat} (D : KDict X.K X.w d es n) :
    IxR X (fun x y H Q => ∃ (z : Str) (u0 : Value) (v0 : V), x = .ref d ∧ y = .str z ∧ PySem.W.nsIn X.K d z = some (some u0) ∧ RelV v0 u0 ∧ Q v0 H) := by
  intro value slice pins s σ H x y v u Q I rx ry h hs
  have g := op_item_kd D pins s σ H x y v u Q I rx ry h
  obtain ⟨z, u0, v0, rfl, _⟩ := h
  cases rx
  exact tail_any (kd_type D I) PySem.F.slot_dict_getitem.lookup g hs
end RZ

set_option maxRecDepth 100000
set_option maxHeartbeats 4000000
namespace K09
open PySem PySem.Spec PyProof.Rows L2 He VH RZ
/-! is a thing of any kind a statement -/
abbrev sIst : Stmt := top 24
abbrev FnIst (K : PySem.W.Frag) (fd : FuncData) : Prop := FnP K "is_statement" sIst (ga K "is_statement") fd
theorem bIst {K : PySem.W.Frag} {fd : FuncData} (F : FnIst K fd) : Binds K fd ["value"] [] := FunD.bindsN F fun _ _ _ _ _ _ us hl => match us, hl with | [_], _ => rfl
abbrev nIst : List Str := ["value", "places", "rest", "word", "words"]
theorem scIst : FnScope nIst ["value"] (defScope sIst) := ⟨rfl, rfl, rfl, by decide +kernel, rfl, by decide +kernel, by decide +kernel⟩
def plcs (w : Str) : List (List Str) := if w = "set" then [["keep", "input", "read"], ["keep", "none", "now", "read", "copy"]] else if w = "put" then [["none", "now", "read", "copy"]] else if w = "insert" then [["none", "now"]] else []
abbrev heads : List Str := ["set", "put", "insert", "delete"]
abbrev cks : List Str := ["missing", "same old", "same new"]
theorem Txt.pl {K : PySem.W.Frag} {mg : Str → Option Value} {w : World} (T : Txt K mg w) {x : Str} (h : x ∈ heads) : Ent K "PLACES" x (plcs x) := by
  simp only [heads, List.mem_cons, List.not_mem_nil, or_false] at h
  rcases h with rfl | rfl | rfl | rfl
  · exact T.d_PLACES_set
  · exact T.d_PLACES_put
  · exact T.d_PLACES_insert
  · exact T.d_PLACES_delete
def wdsT (ts : List Tr) (ws : List Str) : Bool := match Tr.strs? ts with
  | some cs => wdsOk cs ws
  | none => false
def midT (ts : List Tr) (ps : List (List Str)) : Bool := decide (ts.length = ps.length) && (ts.zip ps).all fun q => Tr.wordT q.1 q.2
/-- what stands behind the first word is right -/
def restT (w : Str) (ts : List Tr) : Bool := if w = "insert" then midT ts (plcs w) else match ts.getLast? with
  | some (.tup cs) => wdsT cs cks && midT ts.dropLast (plcs w)
  | _ => false
def isSt : Tr → Bool
  | .tup (.str w :: t :: ts) => heads.contains w && restT w (t :: ts)
  | _ => false
/-- it is one, or none -/
def IsSt (K : PySem.W.Frag) (H : Hp) (x : V) (r : Bool) : Prop := ∃ t, At K H x t ∧ t.fine = true ∧ isSt t = r
def spIst (K : PySem.W.Frag) : Sp := fun vs H Q _ => ∃ (x : V) (r : Bool), vs = [x] ∧ IsSt K H x r ∧ ∀ H', Same H H' → Q (.bl r) H'
section
variable {P : Program} {w : World} {K : PySem.W.Frag} {mg : Str → Option Value} {base : Heap} {f : Addr} {fd fdI fdW fdS : FuncData}
theorem ok_ist (F : FnP K "is_statement" sIst f fd) (T : Txt K mg w) (FW : FnWrd K fdW) (FS : FnWds K fdS) : FnOk P w K mg base CX0 3 f fd ["value"] (spIst K) := by
  have GW : FnOk P w K mg base CX0 1 (ga K "is_word") fdW ["value", "words"] (spWrd K) := ok_wrd FW T
  have GS : FnOk P w K mg base CX0 2 (ga K "are_words") fdS ["values", "words"] (spWds K) := ok_wds FS T FW
  obtain ⟨es, en, KD⟩ := T.dict_PLACES
  refine F.ok scIst (fun vs H Q E h => ?_) (fun cdv A outer s H vs Q E hr h => ?_)
  · obtain ⟨x, r, rfl, _⟩ := h
    rfl
  have r1 : Room 1 _ := hr.mono (by decide)
  refine ⟨_, PSs.nox (pss_cons (ps_if (PW.pt (pw_or (pt_not (pt_val (pe_callB call_isi (by rfl) T.g_isinstance boot_isinstance (pa_cons (pv 0) (pa_cons (pe_bltn (v := .ty "tuple") (by rfl) T.g_tuple boot_tuple rfl) pa_nil))))) (pw_or (pt_cmpR op_lt (pe_callB call_len_seq (by rfl) T.g_len boot_len (pa_cons (pv 0) pa_nil)) pe_int (nomark _)) (pw_or1 (pt_not (pt_val (pe_callB call_isi (by rfl) T.g_isinstance boot_isinstance (pa_cons (pe_ix ix_tup (pv 0) pe_int (fun _ _ => rfl)) (pa_cons (pe_bltn (v := .ty "str") (by rfl) T.g_str boot_str rfl) pa_nil))))))))) (pss_one (ps_ret pe_bl)) pss_nil)
     (pss_cons (ps_if (pt_cmpR (op_notIn_kd KD) (pe_ix ix_tup (pv 0) pe_int (fun _ _ => rfl)) (pe_glob (v := .ref (ga K "PLACES")) (by rfl) T.m_PLACES rfl) (by rfl)) (pss_one (ps_ret pe_bl)) pss_nil)
     (pss_cons (ps_set (i := 1) scIst.nd rfl (Or.inl rfl) (pe_ix (ix_kd KD) (pe_glob (v := .ref (ga K "PLACES")) (by rfl) T.m_PLACES rfl) (pe_ix ix_tup (pv 0) pe_int (fun _ _ => rfl)) (fun _ _ => rfl)))
     (pss_cons (ps_set (i := 2) scIst.nd rfl (Or.inl rfl) (pe_slice sl_tup (pv 0) (po_some pe_int) po_none))
     (pss_cons (ps_if (pt_cmpR op_ne (pe_ix ix_tup (pv 0) pe_int (fun _ _ => rfl)) pe_str (nomark _)) (pss_cons (ps_if (PW.pt (pw_or (pt_not (pt_val (pe_callB call_isi (by rfl) T.g_isinstance boot_isinstance (pa_cons (pe_ix ix_tup (pv 2) (pe_un un_neg pe_int) (fun _ _ => rfl)) (pa_cons (pe_bltn (v := .ty "tuple") (by rfl) T.g_tuple boot_tuple rfl) pa_nil))))) (pw_or1 (pt_not (pt_val (pe_call GS hr (by rfl) T.m_are_words FS.kp (bWds FS) .nil pass0 (pa_cons (pe_ix ix_tup (pv 2) (pe_un un_neg pe_int) (fun _ _ => rfl)) (pa_cons (pe_glob (v := .ref (ga K "CHECKS")) (by rfl) T.m_CHECKS rfl) pa_nil)))))))) (pss_one (ps_ret pe_bl)) pss_nil) (pss_one (ps_set (i := 2) scIst.nd rfl (Or.inl rfl) (pe_slice sl_tup (pv 2) po_none (po_some (pe_un un_neg pe_int)))))) pss_nil)
     (pss_one (ps_ret (pe_and (pe_cmpR op_eq (pe_callB call_len_seq (by rfl) T.g_len boot_len (pa_cons (pv 2) pa_nil)) (pe_callB call_len_seq (by rfl) T.g_len boot_len (pa_cons (pv 1) pa_nil)) (nomark _)) (pe_one (pe_callB (cr_all rfl) (by rfl) T.g_all boot_all (pa_cons (pe_lc (own := [("word", 3), ("words", 4)]) (g := gTup K 2 (gCons (gName 3) (gCons (gName 4) gNil))) (tt := tYes) rfl scIst.nd (pi_zipA (by rfl) T.g_zip (pa_cons (pv 2) (pa_cons (pv 1) pa_nil))) (blkOk_by (N := nIst) (sc := defScope sIst) (by decide +kernel)) (fun _ _ _ _ _ => by exact pg_tup rfl (pgs_cons (pg_name (i := 3) scIst.nd rfl (Or.inl rfl)) (pgs_cons (pg_name (i := 4) scIst.nd rfl (Or.inl rfl)) pgs_nil))) (fun _ _ _ _ _ => pts_nil) (fun _ _ _ _ _ => pe_call GW r1 (by rfl) T.m_is_word FW.kp (bWrd FW) .nil pass0 (pa_cons (pv 3) (pa_cons (pv 4) pa_nil)))) pa_nil))))))))))), ?_⟩
  obtain ⟨x, _, rfl, ⟨t, hx, fx, rfl⟩, k⟩ := h
  -- no tuple
  by_cases nt : ∃ us, t = .tup us
  case neg =>
    have e : isSt t = false := by
      unfold isSt
      split
      · exact absurd ⟨_, rfl⟩ nt
      · rfl
    rw [e] at k
    exact ⟨_, rfl, _, _, _, _, false, rfl, .ty "tuple", hx.ty, noTup (fun us e => nt ⟨us, e⟩) _, false, rfl, iteT (k H (Same.refl H))⟩
  obtain ⟨ts, rfl⟩ := nt
  obtain ⟨ln, fs⟩ := Tr.fine_tup fx
  cases hx with
  | tup h hs =>
    rename_i p xs
    have lx := hs.len
    have ty := sqT_ty h
    have kk : PySem.W.kitOne K (.type "tuple") (.type "tuple") = some true := kit_ty (by decide +kernel)
    refine ⟨_, rfl, _, _, _, _, true, rfl, .ty "tuple", ty, kk, true, rfl, iteF ?_⟩
    refine ⟨_, rfl, _, _, rfl, .inr h, _, _, rfl, rfl, _, rfl, ?_⟩
    -- too short
    by_cases sh : ts.length < 2
    case pos =>
      have e : isSt (.tup ts) = false := by
        match ts, sh with
        | [], _ => rfl
        | [t], _ => cases t <;> rfl
      rw [e] at k
      rw [decide_eq_true (by omega)]
      exact iteT (k H (Same.refl H))
    rw [decide_eq_false (by omega)]
    obtain ⟨t0, t1, tr, rfl⟩ : ∃ t0 t1 tr, ts = t0 :: t1 :: tr := by
      match ts, sh with
      | t0 :: t1 :: tr, _ => exact ⟨t0, t1, tr, rfl⟩
      | [t], h => exact absurd (show 1 < 2 by decide) h
      | [], h => exact absurd (show 0 < 2 by decide) h
    obtain ⟨x0, xr, rfl, hx0, hr0⟩ : ∃ x0 xr, xs = x0 :: xr ∧ At K H x0 t0 ∧ Ats K H xr (t1 :: tr) := by
      cases hs with
      | cons a b => exact ⟨_, _, rfl, a, b⟩
    have f0 : t0.fine = true := Tr.fines_all fs _ (List.mem_cons_self ..)
    have fr : Tr.fines (t1 :: tr) = true := Tr.fines_of fun u hu => Tr.fines_all fs u (List.mem_cons_of_mem _ hu)
    have ltr : (t1 :: tr).length ≤ 1000 := by
      simp only [List.length_cons] at ln ⊢
      omega
    -- the first is no text
    by_cases n0 : ∃ z, t0 = .str z
    case neg =>
      have e : isSt (.tup (t0 :: t1 :: tr)) = false := by
        unfold isSt
        split
        · rename_i e
          cases e
          exact absurd ⟨_, rfl⟩ n0
        · rfl
      rw [e] at k
      exact iteF ⟨_, rfl, _, _, _, _, rfl, rfl, h, at0, _, _, _, _, false, rfl, .ty "str", hx0.ty, noStr (fun z e => n0 ⟨z, e⟩) _, false, rfl, iteT (k H (Same.refl H))⟩
    obtain ⟨z, rfl⟩ := n0
    obtain rfl : x0 = .str z := by cases hx0; rfl
    have ek : isSt (.tup (.str z :: t1 :: tr)) = (heads.contains z && restT z (t1 :: tr)) := rfl
    rw [ek] at k
    refine iteF ⟨_, rfl, _, _, _, _, rfl, rfl, h, at0, _, _, _, _, true, rfl, .ty "str", .base (.str _), kit_ty (by decide +kernel), true, rfl, iteF ?_⟩
    -- no such word
    by_cases hw : z ∈ heads
    case neg =>
      have hc : heads.contains z = false := by
        cases hc : heads.contains z with
        | true => exact absurd (List.contains_iff_mem.mp hc) hw
        | false => rfl
      rw [hc] at k
      exact ⟨_, rfl, _, _, _, _, rfl, rfl, h, at0, _, _, rfl, rfl, T.ks_PLACES z hc, _, rfl, iteT (k H (Same.refl H))⟩
    rw [List.contains_iff_mem.mpr hw, Bool.true_and] at k
    obtain ⟨pp, ps, e1, e2, e3, e4⟩ := T.pl (x := z) hw
    refine ⟨_, rfl, _, _, _, _, rfl, rfl, h, at0, _, _, rfl, rfl, e1, _, rfl, iteF ?_⟩
    refine ⟨_, rfl, _, _, _, _, rfl, rfl, h, at0, _, _, .ref pp, rfl, rfl, e1, rfl, ?_⟩
    refine ⟨_, rfl, _, rfl, _, _, rfl, h, not1, fun rr nr => ?_⟩
    rw [cut1]
    have sG := Same.new (o := .tup xr) nr
    have lxr := hr0.len
    have hG : upd H rr (.tup xr) rr = some (.tup xr) := upd_same
    have hzs := hr0.same sG
    have h' := sqT_same' sG h
    generalize upd H rr (.tup xr) = G at sG hG hzs h' ⊢
    refine ⟨_, rfl, _, _, _, _, rfl, rfl, h', at0, rfl, _, rfl, ?_⟩
    have lz := ltr
    by_cases wi : z = "insert"
    · subst wi
      have kk : ∀ H', Same G H' → Q (.bl (midT (t1 :: tr) (plcs "insert"))) H' := fun H' s => by
        have := k H' (sG.trans s)
        unfold restT at this
        rw [if_pos rfl] at this
        exact this
      refine iteF ?_
      obtain ⟨us, eus⟩ : ∃ us, us = t1 :: tr := ⟨_, rfl⟩
      obtain ⟨zs, ezs⟩ : ∃ zs, zs = xr := ⟨_, rfl⟩
      rw [← eus] at kk hzs lz lxr
      rw [← ezs] at hzs hG lxr
      have lus := lxr
      clear hr0 h h' hs k
      refine ⟨_, rfl, rr, _, rfl, .inr (SqT.of hG), _, rfl, pp, _, rfl, .inr (e2 _), rfl, _, rfl, ?_⟩
      by_cases ll : us.length = (plcs "insert").length
      case neg =>
        have em : midT us (plcs "insert") = false := by
          unfold midT
          rw [decide_eq_false ll]
          rfl
        rw [em] at kk
        rw [decide_eq_false (fun e => ll (by
          have := V.int.inj e
          rw [List.length_map, e3] at this
          omega))]
        exact iteF (kk G (Same.refl G))
      have em : midT us (plcs "insert") = (us.zip (plcs "insert")).all fun q => Tr.wordT q.1 q.2 := by
        unfold midT
        rw [decide_eq_true ll]
        rfl
      rw [em] at kk
      rw [decide_eq_true (by rw [List.length_map, e3, lus, ll])]
      refine iteT ?_
      refine ⟨_, rfl, _, rfl, rr, pp, _, _, rfl, .inr ⟨SqT.of hG, e2 _, fun D nD => ?_⟩⟩
      refine lc_zipT (K := K) (xs := zs) (ys := ps.map V.ref) (by rw [List.length_map, e3, lus, ll]) (fun i G' => Same G G' ∧ G' D = some (.lst (((us.zip (plcs "insert")).take i).map fun q => V.bl (Tr.wordT q.1 q.2)))) ⟨Same.new nD, upd_same⟩
        (fun i G' g => ⟨SqT.of (g.1 _ _ hG), e2 _⟩) (fun i x y T G' hx hy g nT => ?_) (fun G' g => ?_)
      · obtain ⟨s2, h2⟩ := g
        rw [List.getElem?_map] at hy
        obtain ⟨pi, hpi, rfl⟩ := Option.map_eq_some_iff.mp hy
        obtain ⟨t, ht, at_⟩ := hzs.get hx
        have li := (List.getElem?_eq_some_iff.mp ht).1
        have hw2 : (plcs "insert")[i]? = some (plcs "insert")[i] := List.getElem?_eq_getElem (by omega)
        have hz : (us.zip (plcs "insert"))[i]? = some (t, (plcs "insert")[i]) := by
          rw [List.getElem?_zip_eq_some]
          exact ⟨ht, hw2⟩
        have s3 := s2.trans (Same.new (o := .tup [x, .ref pi]) nT)
        have fin : ∀ b : Bool, b = Tr.wordT t (plcs "insert")[i] → ∃ acc, upd G' T (.tup [x, .ref pi]) D = some (.lst acc) ∧ acc.length < sizeLine ∧ Same G (upd (upd G' T (.tup [x, .ref pi])) D (.lst (acc ++ [.bl b]))) ∧ upd (upd G' T (.tup [x, .ref pi])) D (.lst (acc ++ [.bl b])) D = some (.lst (((us.zip (plcs "insert")).take (i + 1)).map fun q => V.bl (Tr.wordT q.1 q.2))) := fun b e => by
          refine ⟨_, (Same.new (o := .tup [x, .ref pi]) nT) _ _ h2, ?_, same_put s3 nD, ?_⟩
          · rw [List.length_map, List.length_take, List.length_zip]
            have : 1000 < sizeLine := by decide
            omega
          · rw [List.take_succ, hz, e]
            simp only [Option.toList, List.map_append]
            exact upd_same
        refine ⟨T, _, rfl, SqT.of upd_same, rfl, _, _, rfl, _, _, rfl, rfl, rfl, ?_⟩
        refine ⟨_, rfl, _, rfl, _, pi, _, rfl, e4 i pi _ hpi hw2 _, ?_⟩
        by_cases ns : ∃ z, t = .str z
        · obtain ⟨z, rfl⟩ := ns
          cases at_
          exact .inl ⟨z, rfl, fin _ rfl⟩
        · refine .inr ⟨(at_.same s3).noTx fun z e => ns ⟨z, e⟩, fin _ ?_⟩
          unfold Tr.wordT
          split
          · exact absurd ⟨_, rfl⟩ ns
          · rfl
      · obtain ⟨s2, h2⟩ := g
        have full : (us.zip (plcs "insert")).take zs.length = us.zip (plcs "insert") := by
          apply List.take_of_length_le
          rw [List.length_zip]
          omega
        rw [full] at h2
        refine ⟨D, (us.zip (plcs "insert")).map (fun q => Tr.wordT q.1 q.2), rfl, SqL.of (by rw [List.map_map]; exact h2), ?_⟩
        rw [List.all_map]
        exact kk G' s2
    · rw [show (!decide (V.str z = V.str "insert")) = true by simp [wi]]
      -- the last one
      obtain ⟨us, tl, eul⟩ : ∃ us tl, t1 :: tr = us ++ [tl] := ⟨(t1 :: tr).dropLast, (t1 :: tr).getLast (by simp), (List.dropLast_concat_getLast (by simp)).symm⟩
      rw [eul] at hzs
      have fr' := fr
      rw [eul] at fr'
      obtain ⟨zs, ls, ezs, hz1, hz2⟩ := hzs.unapp
      obtain ⟨xl, rfl, hl⟩ : ∃ xl, ls = [xl] ∧ At K G xl tl := by
        cases hz2 with
        | cons a b =>
          cases b
          exact ⟨_, rfl, a⟩
      rw [ezs] at hG
      have ftl : tl.fine = true := Tr.fines_all fr' _ (by simp)
      have kr : ∀ b : Bool, b = restT z (t1 :: tr) → ∀ H', Same G H' → Q (.bl b) H' := fun b e H' s => by
        rw [e]
        exact k H' (sG.trans s)
      have er : restT z (t1 :: tr) = (match some tl with | some (.tup cs) => wdsT cs cks && midT us (plcs z) | _ => false) := by
        unfold restT
        rw [if_neg wi, eul, List.getLast?_append, List.dropLast_concat]
        rfl
      rw [er] at kr
      refine iteT ⟨_, rfl, 1, rfl, _, _, _, _, rfl, rfl, SqT.of hG, atL, ?_⟩
      by_cases ntl : ∃ cs, tl = .tup cs
      case neg =>
        refine ⟨_, _, _, _, false, rfl, .ty "tuple", hl.ty, noTup (fun us e => ntl ⟨us, e⟩) _, false, rfl, iteT (kr false ?_ G (Same.refl G))⟩
        split
        · rename_i e
          cases e
          exact absurd ⟨_, rfl⟩ ntl
        · rfl
      obtain ⟨cs, rfl⟩ := ntl
      obtain ⟨lcs, fcs⟩ := Tr.fine_tup ftl
      cases hl with
      | tup hq hqs =>
        rename_i q ys
        refine ⟨_, _, _, _, true, rfl, .ty "tuple", sqT_ty hq, kit_ty (by decide +kernel), true, rfl, iteF ?_⟩
        refine ⟨_, rfl, 1, rfl, _, _, _, _, rfl, rfl, SqT.of hG, atL, q, _, ys, cks, rfl, .inr hq, hqs.told fcs, by rw [hqs.len]; exact lcs, T.t_CHECKS, by decide, by decide +kernel, fun G2 S2 => ?_⟩
        have ew : wdsB ys cks = wdsT cs cks := by
          unfold wdsB wdsT
          rw [hqs.txs]
          try (cases Tr.strs? cs <;> rfl)
        rw [ew]
        have kr : ∀ b : Bool, b = (wdsT cs cks && midT us (plcs z)) → ∀ H', Same G H' → Q (.bl b) H' := kr
        cases ok : wdsT cs cks with
        | false =>
          rw [ok] at kr
          exact ⟨false, rfl, iteT (kr false rfl G2 S2)⟩
        | true =>
          rw [ok, Bool.true_and] at kr
          refine ⟨true, rfl, iteF ?_⟩
          refine ⟨_, rfl, 1, rfl, _, rfl, _, _, rfl, SqT.of (S2 _ _ hG), notL, fun r2 nr2 => ?_⟩
          rw [cutL]
          have S3 := S2.trans (Same.new (o := .tup zs) nr2)
          have hG3 : upd G2 r2 (.tup zs) r2 = some (.tup zs) := upd_same
          have hzs := hz1.same S3
          have lus := hz1.len
          have kk : ∀ H', Same (upd G2 r2 (.tup zs)) H' → Q (.bl (midT us (plcs z))) H' := fun H' s => kr _ rfl H' (S3.trans s)
          have lz : us.length ≤ 1000 := by
            have := congrArg List.length eul
            rw [List.length_append] at this
            omega
          clear kr k hz1 hz2 hq hqs hG
          generalize upd G2 r2 (.tup zs) = G at hG3 hzs kk ⊢
          have hG := hG3
          obtain ⟨rr, err⟩ : ∃ rr, rr = r2 := ⟨_, rfl⟩
          rw [← err] at hG ⊢
          refine ⟨_, rfl, rr, _, rfl, .inr (SqT.of hG), _, rfl, pp, _, rfl, .inr (e2 _), rfl, _, rfl, ?_⟩
          by_cases ll : us.length = (plcs z).length
          case neg =>
            have em : midT us (plcs z) = false := by
              unfold midT
              rw [decide_eq_false ll]
              rfl
            rw [em] at kk
            rw [decide_eq_false (fun e => ll (by
              have := V.int.inj e
              rw [List.length_map, e3] at this
              omega))]
            exact iteF (kk G (Same.refl G))
          have em : midT us (plcs z) = (us.zip (plcs z)).all fun q => Tr.wordT q.1 q.2 := by
            unfold midT
            rw [decide_eq_true ll]
            rfl
          rw [em] at kk
          rw [decide_eq_true (by rw [List.length_map, e3, lus, ll])]
          refine iteT ?_
          refine ⟨_, rfl, _, rfl, rr, pp, _, _, rfl, .inr ⟨SqT.of hG, e2 _, fun D nD => ?_⟩⟩
          refine lc_zipT (K := K) (xs := zs) (ys := ps.map V.ref) (by rw [List.length_map, e3, lus, ll]) (fun i G' => Same G G' ∧ G' D = some (.lst (((us.zip (plcs z)).take i).map fun q => V.bl (Tr.wordT q.1 q.2)))) ⟨Same.new nD, upd_same⟩
            (fun i G' g => ⟨SqT.of (g.1 _ _ hG), e2 _⟩) (fun i x y T G' hx hy g nT => ?_) (fun G' g => ?_)
          · obtain ⟨s2, h2⟩ := g
            rw [List.getElem?_map] at hy
            obtain ⟨pi, hpi, rfl⟩ := Option.map_eq_some_iff.mp hy
            obtain ⟨t, ht, at_⟩ := hzs.get hx
            have li := (List.getElem?_eq_some_iff.mp ht).1
            have hw2 : (plcs z)[i]? = some (plcs z)[i] := List.getElem?_eq_getElem (by omega)
            have hz : (us.zip (plcs z))[i]? = some (t, (plcs z)[i]) := by
              rw [List.getElem?_zip_eq_some]
              exact ⟨ht, hw2⟩
            have s3 := s2.trans (Same.new (o := .tup [x, .ref pi]) nT)
            have fin : ∀ b : Bool, b = Tr.wordT t (plcs z)[i] → ∃ acc, upd G' T (.tup [x, .ref pi]) D = some (.lst acc) ∧ acc.length < sizeLine ∧ Same G (upd (upd G' T (.tup [x, .ref pi])) D (.lst (acc ++ [.bl b]))) ∧ upd (upd G' T (.tup [x, .ref pi])) D (.lst (acc ++ [.bl b])) D = some (.lst (((us.zip (plcs z)).take (i + 1)).map fun q => V.bl (Tr.wordT q.1 q.2))) := fun b e => by
              refine ⟨_, (Same.new (o := .tup [x, .ref pi]) nT) _ _ h2, ?_, same_put s3 nD, ?_⟩
              · rw [List.length_map, List.length_take, List.length_zip]
                have : 1000 < sizeLine := by decide
                omega
              · rw [List.take_succ, hz, e]
                simp only [Option.toList, List.map_append]
                exact upd_same
            refine ⟨T, _, rfl, SqT.of upd_same, rfl, _, _, rfl, _, _, rfl, rfl, rfl, ?_⟩
            refine ⟨_, rfl, _, rfl, _, pi, _, rfl, e4 i pi _ hpi hw2 _, ?_⟩
            by_cases ns : ∃ z, t = .str z
            · obtain ⟨z, rfl⟩ := ns
              cases at_
              exact .inl ⟨z, rfl, fin _ rfl⟩
            · refine .inr ⟨(at_.same s3).noTx fun z e => ns ⟨z, e⟩, fin _ ?_⟩
              unfold Tr.wordT
              split
              · exact absurd ⟨_, rfl⟩ ns
              · rfl
          · obtain ⟨s2, h2⟩ := g
            have full : (us.zip (plcs z)).take zs.length = us.zip (plcs z) := by
              apply List.take_of_length_le
              rw [List.length_zip]
              omega
            rw [full] at h2
            refine ⟨D, (us.zip (plcs z)).map (fun q => Tr.wordT q.1 q.2), rfl, SqL.of (by rw [List.map_map]; exact h2), ?_⟩
            rw [List.all_map]
            exact kk G' s2
end
end K09

set_option maxRecDepth 100000
set_option maxHeartbeats 4000000
/-! raise C() of an own exception class whose __init__ takes nothing and sets nothing. -/
namespace L2
open PySem PySem.Spec PyProof.Rows
section
variable {X : Cx} {pins : List (Addr × Obj)} {σ : St}
theorem mk_none {H1 H2 : Hp} {Q : XK} {hp hp2 h2 : Heap} {g1 g2 : Array GenState} {d1 d2 : Drawn} {t1 t2 : Nat} {os1 os2 : OsState} {a C : Addr} (T : Raises X (.ref C)) (I1 : Inv X pins σ H1 ⟨hp, g1, d1, t1, os1⟩)
    (ha : hp.objs.size ≤ a) (k : ∀ b o, hp.get? b = some o → hp2.get? b = some o) (un : Un (frs X.stack) [] (upd H1 a (exo a C none)) H2 hp2 h2) (hok : HOk X.prog X.w H2 h2) (ho : os2 = os1) (hb : AllBare g2)
    (ea : H2 a = some (exo a C none)) (q : Q (.ref C) none (del H2 a)) : MkP X pins σ Q (.ref a) ⟨h2, g2, d2, t2, os2⟩ := by
  obtain ⟨t0, at_a⟩ := exo_at hok ea
  have new : H1 a = none := I1.hok.fresh ha
  obtain ⟨G, keepG, outG⟩ := restrict h2 fun b => decide (b ≠ a)
  have same : ∀ b, b ≠ a → G.get? b = h2.get? b := fun b n => keepG b (decide_eq_true n)
  have gone : G.get? a = none := outG a (by simp)
  have old : ∀ {b : Addr} {o : Obj}, hp.get? b = some o → b ≠ a := fun {b o} z => Nat.ne_of_lt (Nat.lt_of_lt_of_le (Heap.lt_size z) ha)
  have un1 : ∀ {b : Addr}, b ≠ a → H1 b = none → upd H1 a (exo a C none) b = none := fun {b} n z => (upd_ne n).trans z
  have U : Un (frs X.stack) [] H1 (del H2 a) hp G :=
    ⟨fun b o z n f x => (same b (old z)).trans (un.keep b o (k b o z) (un1 (old z) n) f x),
     fun b o z n f x => by
      obtain ⟨sl, e⟩ := un.slot b o (k b o z) (un1 (old z) n) f x
      exact ⟨sl, (same b (old z)).trans e⟩,
     fun b o z n x => (del_ne (old z)).trans (un.free b o (k b o z) (un1 (old z) n) x),
     fun b o z x => by
      obtain ⟨o', e⟩ := un.there b o (k b o z) x
      exact ⟨o', (same b (old z)).trans e⟩,
     fun b xs z => (del_ne (ne_of_none z new)).trans (un.tups b xs ((upd_ne (ne_of_none z new)).trans z)),
     fun b o v z => (del_ne (ne_of_none z new)).trans (un.frzs b o v ((upd_ne (ne_of_none z new)).trans z)),
     fun b ps z => by
      obtain ⟨more, e⟩ := un.tbls b ps ((upd_ne (ne_of_none z new)).trans z)
      exact ⟨more, (del_ne (ne_of_none z new)).trans e⟩⟩
  have okG : HOk X.prog X.w (del H2 a) G := fun b o z => by
    have n : b ≠ a := fun e => by
      rw [e, del_same] at z
      cases z
    rw [del_ne n] at z
    have noa : ∀ {c : Addr}, H2 c = some (.own b) → c ≠ a := fun {c} hc => at_ne ea hc exo_own
    exact (hok b o z).stay (fun c v hc y => (same c (hc.elim (fun e => e ▸ n) noa)).trans y) (fun c hc => (del_ne (noa hc)).trans hc) (fun c xs hc => (del_ne (at_ne ea hc exo_tup)).trans hc)
  have J : Inv X pins σ (del H2 a) ⟨G, g2, d2, t2, os2⟩ := I1.call' (ch := []) ho U okG hb (fun b z => absurd z (by simp))
  refine ⟨a, _, _, ⟨G, g2, d2, t2, os2⟩, _, .ref C, none, rfl, J, fun b o z => ?_, gone, at_a, ⟨rfl, rfl⟩, rfl, rfl, del_same, rfl, hb, T, q⟩
  by_cases n : b = a
  · rw [n, gone] at z
    cases z
  · exact (same b n).symm.trans z
/-- C() -/
def tMkN (C : Addr) (sp : Sp) : St → Hp → XK → Prop := fun _ H Q => ∀ a, H a = none → sp [.ref a] (upd H a (exo a C none)) (fun v H2 => v = .non ∧ H2 a = some (exo a C none) ∧ Q (.ref C) none (del H2 a)) fun _ _ _ => False
theorem pmk_oexN {CX : CXT} {x : Str} {C fI : Addr} {k : Nat} {fd : FuncData} {sp : Sp} {p pos : Pos} {s0 : Str} (T : OexC X.K C) (iC : PySem.W.findIn X.K (.ref C) "__init__" = some (some (.ref fI))) (tI : PySem.W.typeIn X.K (.ref fI) = some (.type "function"))
    (F1 : FnOk X.prog X.w X.K X.mg X.base CX k fI fd [s0] sp) (hr : Room (k + 1) X.A) (hb : Binds X.K fd [s0] []) (hx : Passes CX X (fun _ _ _ => False)) (hg : Gl X x) (hm : X.mg x = some (.ref C))
    (hdb : (x == ("__debug__" : Str)) = false := by decide) : PMk X (.Call (.Name x p) [] [] pos) (tMkN C sp) := by
  intro pins s σ H Q I h
  obtain ⟨nm, q, N, bs, bm, sn, sub, ab, col, dd, k0, k1, k2, k3, k5, hC, hbm⟩ := T.cls
  refine wpAny_Call_Name_kw (ld_glob I hg hm ?_ hdb)
  refine PySem.W.callWith_K0 I.kIn T.kC ?_
  show wpAny _ _ (call (.ref C) []) _ _ _
  obtain ⟨hp, g, dr, tk, os⟩ := s
  have up1 : hp.objs.size ≤ hp.objs.size + 1 := Nat.le_succ _
  have hq := h (hp.objs.size + 1) (I.hok.fresh up1)
  have kk : ∀ b o, hp.get? b = some o → ((hp.push (PySem.W.kdv_tup [])).push (PySem.HandSPX.excO C hp.objs.size)).get? b = some o := fun b o e => Heap.get?_push_of_some _ (Heap.get?_push_of_some _ e)
  have hget : ((hp.push (PySem.W.kdv_tup [])).push (PySem.HandSPX.excO C hp.objs.size)).get? (hp.objs.size + 1) = some (PySem.HandSPX.excO C hp.objs.size) := by heap_get
  have I2 : Inv X pins σ (upd H (hp.objs.size + 1) (exo (hp.objs.size + 1) C none)) ⟨(hp.push (PySem.W.kdv_tup [])).push (PySem.HandSPX.excO C hp.objs.size), g, dr, tk, os⟩ := I.laid (t' := tk) kk up1 (exo_ok hget)
  refine wpAny_call (PySem.HandSPX.call_own F.excBase_ValueError (fun Y => PySem.HandSPX.refsVE_contains Y bm hbm) (I.kIn _ _ hC) (PySem.W.looks_findIn I.kIn iC) (fun self => PySem.W.bind_fn I.kIn self tI) (Nat.zero_le _)
    (codeAny_mono (F1.run _ X.stack _ _ ⟨[Value.ref (hp.objs.size + 1)], []⟩ [Value.ref (hp.objs.size + 1)] _ _ (fun _ _ _ => False) (hr.make C [] []) (I2.env0.make C [] []) (hb _ [Value.ref (hp.objs.size + 1)] I2.kIn rfl) (show Vals [V.ref (hp.objs.size + 1)] [Value.ref (hp.objs.size + 1)] from .cons rfl .nil) hq) fun r s' hq' => ?_))
  cases r with
  | error er => exact hx pins σ _ _ er s' I2 hq'
  | ok fl =>
    cases fl with
    | ret u =>
      obtain ⟨v, H2, os2, bare2, un2, hok2, rv, ev, ea, q2⟩ := hq'
      subst ev
      obtain ⟨h2, g2, d2, t2, os'⟩ := s'
      exact ⟨rv, mk_none (raises_own T.exC T.tyC) I up1 kk un2 hok2 os2 bare2 ea q2⟩
    | next => exact False.elim hq'
    | brk => exact False.elim hq'
    | cont => exact False.elim hq'
end
end L2

set_option maxRecDepth 100000
set_option maxHeartbeats 4000000
namespace K09
open PySem PySem.Spec PyProof.Rows L2 He VH RZ
abbrev sChk : Stmt := top 25
abbrev sHas : Stmt := top 27
abbrev FnChk (K : PySem.W.Frag) (fd : FuncData) : Prop := FnP K "checks_of" sChk (ga K "checks_of") fd
abbrev FnHas (K : PySem.W.Frag) (fd : FuncData) : Prop := FnP K "has_word" sHas (ga K "has_word") fd
theorem bChk {K : PySem.W.Frag} {fd : FuncData} (F : FnChk K fd) : Binds K fd ["statement"] [] := FunD.bindsN F fun _ _ _ _ _ _ us hl => match us, hl with | [_], _ => rfl
theorem bHas {K : PySem.W.Frag} {fd : FuncData} (F : FnHas K fd) : Binds K fd ["statement", "words"] [] := FunD.bindsN F fun _ _ _ _ _ _ us hl => match us, hl with | [_, _], _ => rfl
abbrev FnNos (K : PySem.W.Frag) (fd : FuncData) : Prop := FnM K "__init__" "NoStatement.__init__" 2 0 (ma K (ga K "NoStatement") "__init__") fd
/-- a statement's word, what stands behind it, its checks -/
structure Stp where
  w : Str
  mid : List Str
  cs : List Str
deriving DecidableEq
def Stp.ok (s : Stp) : Bool := heads.contains s.w && (decide (s.mid.length = (plcs s.w).length) && ((s.mid.zip (plcs s.w)).all (fun q => q.2.contains q.1) && (wdsOk s.cs cks && (s.w != "insert" || s.cs.isEmpty))))
/-- it stands at p -/
def StAt (H : Hp) (p : Addr) (s : Stp) : Prop := if s.w = "insert" then H p = some (.tup (.str "insert" :: s.mid.map V.str)) else ∃ q, H p = some (.tup (.str s.w :: (s.mid.map V.str ++ [.ref q]))) ∧ H q = some (.tup (s.cs.map V.str))
theorem StAt.same {H H' : Hp} {p : Addr} {s : Stp} (h : StAt H p s) (e : ∀ b xs, H b = some (.tup xs) → H' b = some (.tup xs)) : StAt H' p s := by
  unfold StAt at h ⊢
  split
  · rename_i z
    rw [if_pos z] at h
    exact e _ _ h
  · rename_i z
    rw [if_neg z] at h
    obtain ⟨q, h1, h2⟩ := h
    exact ⟨q, e _ _ h1, e _ _ h2⟩
/-- a raise of NoStatement -/
def Rn (K : PySem.W.Frag) (E : XK) (H : Hp) : Prop := ∀ H' : Hp, Same H H' → E (.ref (ga K "NoStatement")) none H'
def spPass : Sp := fun vs H Q _ => ∃ v, vs = [v] ∧ Q .non H
section
variable {P : Program} {w : World} {K : PySem.W.Frag} {mg : Str → Option Value} {base : Heap} {f : Addr} {fd fdI fdW fdS fdN fdC fdT : FuncData}
theorem scNos : FnScope ["self"] ["self"] (defScope (inClass (top 2) 0)) := ⟨rfl, rfl, rfl, by decide +kernel, rfl, by decide +kernel, by decide +kernel⟩
theorem okNos (F : FnM K "__init__" "NoStatement.__init__" 2 0 f fd) : FnOk P w K mg base CX0 1 f fd ["self"] spPass := by
  refine F.ok scNos (fun vs H Q E h => ?_) (fun cdv A outer s H vs Q E hr h => ?_)
  · obtain ⟨a, rfl, _⟩ := h
    rfl
  refine ⟨_, PSs.nox (pss_one ps_pass), ?_⟩
  obtain ⟨a, rfl, q⟩ := h
  exact q
theorem bNos (F : FnM K "__init__" "NoStatement.__init__" 2 0 f fd) : Binds K fd ["self"] [] := FunD.bindsN F fun _ _ _ _ _ _ us hl => match us, hl with | [_], _ => rfl
theorem read_nos {H : Hp} {E : XK} (h : Rn K E H) : tMkN (ga K "NoStatement") spPass ([] : L2.St) H (fun cls d H' => E cls d H') := fun a n => ⟨_, rfl, rfl, upd_same, h _ fun b o e => by
  rw [del_ne (ne_of_none e n), upd_ne (ne_of_none e n)]
  exact e⟩
theorem scChk : FnScope ["statement"] ["statement"] (defScope sChk) := ⟨rfl, rfl, rfl, by decide +kernel, rfl, by decide +kernel, by decide +kernel⟩
/-- the checks of a statement: a tuple of texts -/
def spChk (K : PySem.W.Frag) : Sp := fun vs H Q _ => ∃ (p : Addr) (s : Stp), vs = [.ref p] ∧ StAt H p s ∧ s.ok = true ∧ ∀ (H' : Hp) (q : Addr), Same H H' → H' q = some (.tup (s.cs.map V.str)) → Q (.ref q) H'
theorem ok_chk (F : FnP K "checks_of" sChk f fd) : FnOk P w K mg base CX0 1 f fd ["statement"] (spChk K) := by
  refine F.ok scChk (fun vs H Q E h => ?_) (fun cdv A outer s H vs Q E hr h => ?_)
  · obtain ⟨x, r, rfl, _⟩ := h
    rfl
  refine ⟨_, PSs.nox (pss_cons (ps_if (pt_cmpR op_eq (pe_ix ix_tup (pv 0) pe_int (fun _ _ => rfl)) pe_str (nomark _)) (pss_one (ps_ret (pe_tup pa_nil))) pss_nil) (pss_one (ps_ret (pe_ix ix_tup (pv 0) (pe_un un_neg pe_int) (fun _ _ => rfl))))), ?_⟩
  obtain ⟨p, s, rfl, at_, ok, k⟩ := h
  unfold StAt at at_
  by_cases z : s.w = "insert"
  · rw [if_pos z] at at_
    refine ⟨_, rfl, _, _, _, _, rfl, rfl, SqT.of at_, at0, rfl, _, rfl, iteT ⟨(show 0 ≤ sizeLine by decide), fun e ne => k _ e (Same.new ne) ?_⟩⟩
    have e0 : s.cs = [] := by
      unfold Stp.ok at ok
      simp only [Bool.and_eq_true, Bool.or_eq_true, bne_iff_ne, ne_eq, List.isEmpty_iff] at ok
      rcases ok.2.2.2.2 with y | y
      · exact absurd z y
      · exact y
    rw [e0]
    exact upd_same
  · rw [if_neg z] at at_
    obtain ⟨q, h1, h2⟩ := at_
    refine ⟨_, rfl, _, _, _, _, rfl, rfl, SqT.of h1, at0, rfl, _, rfl, ?_⟩
    rw [show decide (V.str s.w = V.str "insert") = false by simp [z]]
    refine iteF ⟨_, rfl, 1, rfl, _, _, _, _, rfl, rfl, SqT.of h1, ?_, k H q (Same.refl H) h2⟩
    exact atL (xs := .str s.w :: s.mid.map V.str)
end
end K09

set_option maxRecDepth 100000
set_option maxHeartbeats 4000000
namespace K09
open PySem PySem.Spec PyProof.Rows L2 He VH RZ
theorem Stp.facts {s : Stp} (h : s.ok = true) : s.w ∈ heads ∧ s.mid.length = (plcs s.w).length ∧ (s.mid.zip (plcs s.w)).all (fun q => q.2.contains q.1) = true ∧ wdsOk s.cs cks = true ∧ (s.w = "insert" → s.cs = []) := by
  unfold Stp.ok at h
  simp only [Bool.and_eq_true, Bool.or_eq_true, bne_iff_ne, ne_eq, List.isEmpty_iff, decide_eq_true_eq] at h
  obtain ⟨h1, h2, h3, h4, h5⟩ := h
  exact ⟨List.contains_iff_mem.mp h1, h2, h3, h4, fun z => h5.elim (fun y => absurd z y) id⟩
theorem plcs_le (w : Str) : (plcs w).length ≤ 2 := by
  unfold plcs
  split
  · decide
  · split
    · decide
    · split <;> decide
theorem wds_mem {cs : List Str} (h : wdsOk cs cks = true) : ∀ z ∈ cs, z ∈ cks := by
  unfold wdsOk at h
  simp only [Bool.and_eq_true] at h
  exact fun z hz => List.contains_iff_mem.mp (List.all_eq_true.mp h.1 z hz)
theorem wds_le {cs : List Str} (h : wdsOk cs cks = true) : cs.length ≤ 3 := by
  unfold wdsOk at h
  simp only [Bool.and_eq_true, decide_eq_true_eq] at h
  rw [h.2]
  exact List.length_filter_le _ cks
theorem lay_cks : ∀ z ∈ cks, PyData.canLay0 (.str z) = true := by decide +kernel
def Ls : Nat → List (List Str)
  | 0 => [[]]
  | n + 1 => Ls n ++ (Ls n).map (· ++ [cks.getD n ""])
theorem Ls_ok : ∀ cs ∈ Ls 3, wdsOk cs cks = true := by decide +kernel
theorem Stp.kinds {s : Stp} (ok : s.ok = true) : (s.w = "insert" ∧ s.cs = [] ∧ ∃ m, s.mid = [m] ∧ m ∈ (["none", "now"] : List Str)) ∨ (s.w = "delete" ∧ s.mid = []) ∨ (s.w = "put" ∧ ∃ m, s.mid = [m] ∧ m ∈ (["none", "now", "read", "copy"] : List Str)) ∨
    (s.w = "set" ∧ ∃ m n, s.mid = [m, n] ∧ m ∈ (["keep", "input", "read"] : List Str) ∧ n ∈ (["keep", "none", "now", "read", "copy"] : List Str)) := by
  obtain ⟨f1, f2, f3, _, f5⟩ := Stp.facts ok
  obtain ⟨sw, mid, cs⟩ := s
  simp only at f1 f2 f3 f5 ⊢
  simp only [heads, List.mem_cons, List.not_mem_nil, or_false] at f1
  rcases f1 with rfl | rfl | rfl | rfl
  · refine .inr (.inr (.inr ⟨rfl, ?_⟩))
    match mid, f2, f3 with
    | [m, n], _, f3 =>
      simp only [plcs, if_true, List.zip_cons_cons, List.all_cons, Bool.and_eq_true] at f3
      exact ⟨m, n, rfl, List.contains_iff_mem.mp f3.1, List.contains_iff_mem.mp f3.2.1⟩
  · refine .inr (.inr (.inl ⟨rfl, ?_⟩))
    match mid, f2, f3 with
    | [m], _, f3 =>
      have e : plcs "put" = ([["none", "now", "read", "copy"]] : List (List Str)) := by decide
      rw [e] at f3
      simp only [List.zip_cons_cons, List.all_cons, Bool.and_eq_true] at f3
      exact ⟨m, rfl, List.contains_iff_mem.mp f3.1⟩
  · refine .inl ⟨rfl, f5 rfl, ?_⟩
    match mid, f2, f3 with
    | [m], _, f3 =>
      have e : plcs "insert" = ([["none", "now"]] : List (List Str)) := by decide
      rw [e] at f3
      simp only [List.zip_cons_cons, List.all_cons, Bool.and_eq_true] at f3
      exact ⟨m, rfl, List.contains_iff_mem.mp f3.1⟩
  · refine .inr (.inl ⟨rfl, ?_⟩)
    match mid, f2 with
    | [], _ => rfl
theorem cs_all {cs : List Str} (h : wdsOk cs cks = true) : cs ∈ Ls 3 := by
  unfold wdsOk at h
  simp only [Bool.and_eq_true, decide_eq_true_eq] at h
  have e := h.2
  cases h1 : cs.contains "missing" <;> cases h2 : cs.contains "same old" <;> cases h3 : cs.contains "same new" <;>
    (simp only [cks, List.filter_cons, h1, h2, h3, List.filter_nil, if_true, Bool.false_eq_true, if_false] at e; rw [e]; decide)
def allSt : List Stp :=
  (["none", "now"] : List Str).map (fun f => ⟨"insert", [f], []⟩) ++ ((Ls 3).map (fun c => ⟨"delete", [], c⟩) ++ ((Ls 3).flatMap (fun c => (["none", "now", "read", "copy"] : List Str).map fun f => ⟨"put", [f], c⟩) ++
    (Ls 3).flatMap (fun c => (["keep", "input", "read"] : List Str).flatMap fun m => (["keep", "none", "now", "read", "copy"] : List Str).map fun f => ⟨"set", [m, f], c⟩)))
theorem mem_all {s : Stp} (ok : s.ok = true) : s ∈ allSt := by
  have kd := Stp.kinds ok
  obtain ⟨_, _, _, f4, _⟩ := Stp.facts ok
  have hc := cs_all f4
  obtain ⟨sw, mid, cs⟩ := s
  simp only at kd hc
  unfold allSt
  rcases kd with ⟨rfl, rfl, m, rfl, hm⟩ | ⟨rfl, rfl⟩ | ⟨rfl, m, rfl, hm⟩ | ⟨rfl, m, n, rfl, hm, hn⟩
  · exact List.mem_append_left _ (List.mem_map.mpr ⟨m, hm, rfl⟩)
  · exact List.mem_append_right _ (List.mem_append_left _ (List.mem_map.mpr ⟨cs, hc, rfl⟩))
  · exact List.mem_append_right _ (List.mem_append_right _ (List.mem_append_left _ (List.mem_flatMap.mpr ⟨cs, hc, List.mem_map.mpr ⟨m, hm, rfl⟩⟩)))
  · exact List.mem_append_right _ (List.mem_append_right _ (List.mem_append_right _ (List.mem_flatMap.mpr ⟨cs, hc, List.mem_flatMap.mpr ⟨m, hm, List.mem_map.mpr ⟨n, hn, rfl⟩⟩⟩)))
/-- the statement's tree -/
def Stp.tr (s : Stp) : Tr := if s.w = "insert" then .tup (.str "insert" :: s.mid.map Tr.str) else .tup (.str s.w :: (s.mid.map Tr.str ++ [.tup (s.cs.map Tr.str)]))
theorem StAt.tr {K : PySem.W.Frag} {H : Hp} {p : Addr} {s : Stp} (h : StAt H p s) : At K H (.ref p) s.tr := by
  unfold StAt at h
  unfold Stp.tr
  by_cases z : s.w = "insert"
  · rw [if_pos z] at h
    rw [if_pos z]
    exact .tup (SqT.of h) (.cons .str (Ats.strs _))
  · rw [if_neg z] at h
    rw [if_neg z]
    obtain ⟨q, a, b⟩ := h
    exact .tup (SqT.of a) (.cons .str ((Ats.strs _).app (.cons (.tup (SqT.of b) (Ats.strs _)) .nil)))
theorem tr_all : ∀ s ∈ allSt, s.tr.fine = true ∧ isSt s.tr = true := by decide +kernel
theorem StAt.is {K : PySem.W.Frag} {H : Hp} {p : Addr} {s : Stp} (h : StAt H p s) (ok : s.ok = true) : IsSt K H (.ref p) true := ⟨_, h.tr, (tr_all s (mem_all ok)).1, (tr_all s (mem_all ok)).2⟩
def hasW (s : Stp) (ws : List Str) : Bool := (s.w :: (s.mid ++ s.cs)).any ws.contains
/-- an item of a statement: a text, or its checks at q -/
def itV (q : Addr) : Option Str → V
  | some z => .str z
  | none => .ref q
def itB (ws : List Str) : Option Str → Bool
  | some z => ws.contains z
  | none => false
def itD (cs : List Str) : Option Str → PyData
  | some z => .str z
  | none => .tuple (cs.map PyData.str)
theorem anyS {z : Str} {ws : List Str} : ((ws.map PyData.str).any fun y => PyData.eqv y (.str z)) = ws.contains z := by
  induction ws with
  | nil => rfl
  | cons w ws ih =>
    rw [List.map_cons, List.any_cons, ih, List.contains_cons]
    congr 1
    show (w == z) = (z == w)
    by_cases h : w = z
    · subst h
      rfl
    · exact (beq_false_of_ne h).trans (beq_false_of_ne (Ne.symm h)).symm
theorem anyT {cs ws : List Str} : ((ws.map PyData.str).any fun y => PyData.eqv y (.tuple (cs.map PyData.str))) = false := by
  induction ws with
  | nil => rfl
  | cons w ws ih => rw [List.map_cons, List.any_cons, ih]; rfl
theorem shpT {ws : List Str} (h : ∀ z ∈ ws, PyData.canLay0 (.str z) = true) : SeqAt.shaped (.tuple (ws.map PyData.str)) = true := by
  have z := shpAll ws h
  unfold SeqAt.shaped PyData.canLay0 PyData.depth
  rw [z.1, z.2]
  rfl
theorem dpT {K : PySem.W.Frag} {H : Hp} {p : Addr} {ws : List Str} (h : SqT K H p (ws.map V.str)) : Dp K H (.ref p) (.tuple (ws.map PyData.str)) := .tup h (dpS ws)
def spHas (K : PySem.W.Frag) : Sp := fun vs H Q E => ∃ (x : V) (pw : Addr) (ws : List Str), vs = [x, .ref pw] ∧ (∀ H, SqT K H pw (ws.map V.str)) ∧ (∀ z ∈ ws, PyData.canLay0 (.str z) = true) ∧
  ((IsSt K H x false ∧ Rn K E H) ∨ ∃ p s, x = .ref p ∧ StAt H p s ∧ s.ok = true ∧ (∀ z ∈ s.w :: s.mid, PyData.canLay0 (.str z) = true) ∧ ∀ H', Same H H' → Q (.bl (hasW s ws)) H')
theorem eqB {cs ws : List Str} (y : Option Str) : ((ws.map PyData.str).any fun u => PyData.eqv u (itD cs y)) = itB ws y := by
  cases y with
  | none => exact anyT
  | some z => exact anyS
theorem shpY {cs : List Str} (hc : ∀ z ∈ cs, PyData.canLay0 (.str z) = true) (y : Option Str) (h : ∀ z, y = some z → PyData.canLay0 (.str z) = true) : SeqAt.shaped (itD cs y) = true := by
  cases y with
  | none => exact shpT hc
  | some z =>
    unfold SeqAt.shaped itD
    rw [h z rfl]
    rfl
theorem mapS {q : Addr} {l : List Str} : (l.map some).map (itV q) = l.map V.str := by
  rw [List.map_map]
  rfl
theorem mapB {ws l : List Str} : ((l.map some).map (itB ws)).any id = l.any ws.contains := by
  rw [List.map_map, List.any_map]
  rfl
section
variable {P : Program} {w : World} {K : PySem.W.Frag} {mg : Str → Option Value} {base : Heap} {f : Addr} {fd fdI fdW fdS fdN fdC fdT : FuncData}
abbrev nHas : List Str := ["statement", "words", "word"]
theorem scHas : FnScope nHas ["statement", "words"] (defScope sHas) := ⟨rfl, rfl, rfl, by decide +kernel, rfl, by decide +kernel, by decide +kernel⟩
theorem passN {X : Cx} : Passes (L2.CX X.prog X.w) X (fun _ _ _ => False) := fun _ _ _ _ _ _ _ h => by
  obtain ⟨_, _, _, _, _, _, _, _, _, _, _, _, z⟩ := h
  exact z.elim
theorem ok_has (F : FnP K "has_word" sHas f fd) (T : Txt K mg w) (FT : FnIst K fdT) (FC : FnChk K fdC) (FN : FnNos K fdN) (FW : FnWrd K fdW) (FS : FnWds K fdS) : FnOk P w K mg base (L2.CX P w) 4 f fd ["statement", "words"] (spHas K) := by
  have GT : FnOk P w K mg base CX0 3 (ga K "is_statement") fdT ["value"] (spIst K) := ok_ist FT T FW FS
  have GC : FnOk P w K mg base CX0 1 (ga K "checks_of") fdC ["statement"] (spChk K) := ok_chk FC
  refine F.ok scHas (fun vs H Q E h => ?_) (fun cdv A outer s H vs Q E hr h => ?_)
  · obtain ⟨x, p, ws, rfl, _⟩ := h
    rfl
  have hu65 : (A.deeper (envOfC "has_word" (defScope sHas) s.heap.objs.size f cdv)).units + 65 < cLine := by
    have := hr.un
    omega
  refine ⟨_, pss_cons (ps_if (pt_not (pt_val (pe_call GT hr (by rfl) T.m_is_statement FT.kp (bIst FT) .nil pass0 (pa_cons (pv 0) pa_nil))))
      (pss_one (ps_raise rfl (takes_of rfl rfl rfl rfl) (pmk_oexN T.x_NoStatement.mkx.toOexC T.x_NoStatement.mkx.ini T.x_NoStatement.mkx.tyI (okNos FN) (hr.mono (by decide)) (bNos FN) pass0 (by rfl) T.m_NoStatement))) pss_nil)
    (pss_one (ps_ret (pe_callB (cr_any rfl) (by rfl) T.g_any boot_any (pa_cons (pe_lc (own := [("word", 2)]) (g := gName 2) (tt := tYes) (te := tOp (rInDT K) (tVar 2) (tVar 1)) rfl scHas.nd
        (pi_tup (pe_op op_catT (pv 0) (pe_call GC (hr.mono (by decide)) (by rfl) T.m_checks_of FC.kp (bChk FC) .nil pass0 (pa_cons (pv 0) pa_nil)))) (blkOk_by (N := nHas) (sc := defScope sHas) (by decide +kernel))
        (fun _ _ _ _ _ => pg_name (i := 2) scHas.nd rfl (Or.inl rfl)) (fun _ _ _ _ _ => pts_nil) (fun _ _ _ _ _ => pe_cmpR (op_inDT hu65) (pv 2) (pv 1) (by rfl))) pa_nil)))), ?_⟩
  obtain ⟨x, pw, ws, rfl, hw, lw, way⟩ := h
  rcases way with ⟨is, rn⟩ | ⟨p, s, rfl, at_, ok, lay, k⟩
  · refine ⟨_, rfl, _, false, rfl, is, fun H' S => ⟨false, rfl, iteT ?_⟩⟩
    exact read_nos (fun H'' s => rn H'' (S.trans s))
  · refine ⟨_, rfl, _, true, rfl, at_.is ok, fun H1 S1 => ⟨true, rfl, iteF ?_⟩⟩
    have tupS1 : ∀ b xs, H b = some (.tup xs) → H1 b = some (.tup xs) := fun b xs e => S1 _ _ e
    have at1 := at_.same tupS1
    refine ⟨_, rfl, _, rfl, p, s, rfl, at1, ok, fun H2 qc S2 hqc => ?_⟩
    have at2 := at1.same (fun b xs e => S2 _ _ e)
    have SH := S1.trans S2
    obtain ⟨f1, f2, f3, f4, f5⟩ := Stp.facts ok
    have l1 := plcs_le s.w
    have l2 := wds_le f4
    have big : 1000 < sizeLine := by decide
    have layC : ∀ z ∈ s.cs, PyData.canLay0 (.str z) = true := fun z hz => lay_cks z (wds_mem f4 z hz)
    unfold StAt at at2
    by_cases z : s.w = "insert"
    · rw [if_pos z] at at2
      have e0 := f5 z
      rw [e0] at hqc
      refine ⟨p, qc, _, _, rfl, rfl, SqT.of at2, SqT.of hqc, by simp, by simp; omega, fun _ => ?_, fun n => absurd rfl n⟩
      have e3 : s.cs = [] := e0
      let q0 : Addr := p
      let G : Hp := H2
      let its : List (Option Str) := (("insert" : Str) :: s.mid).map some
      have SG : Same H G := SH
      have hx : SqT K G p (its.map (itV q0)) := by
        have := SqT.of (K := K) at2
        show SqT K H2 p (((("insert" : Str) :: s.mid).map some).map (itV p))
        rw [mapS]
        exact this
      have hq0 : none ∈ its → G q0 = some (.tup (s.cs.map V.str)) := fun h => by
        obtain ⟨_, _, z⟩ := List.mem_map.mp h
        cases z
      have lits : its.length ≤ 1000 := by
        show ((("insert" : Str) :: s.mid).map some).length ≤ 1000
        rw [List.length_map, List.length_cons]
        omega
      have hlay : ∀ y, some y ∈ its → PyData.canLay0 (.str y) = true := fun y hy => by
        obtain ⟨u, hu, e⟩ := List.mem_map.mp hy
        cases e
        exact lay _ (z ▸ hu)
      have hany : (its.map (itB ws)).any id = hasW s ws := by
        show (((("insert" : Str) :: s.mid).map some).map (itB ws)).any id = hasW s ws
        rw [mapB]
        unfold hasW
        rw [e3, List.append_nil, z]
      refine ⟨_, rfl, ⟨_, hx⟩, fun D nD => ?_⟩
      refine lc_tup (K := K) (xs := its.map (itV q0)) (fun i G' => Same G G' ∧ G' D = some (.lst ((its.take i).map fun y => V.bl (itB ws y)))) ⟨Same.new nD, upd_same⟩ (fun i G' _ g => sqT_same' g.1 hx) (fun i x G' hx' g => ?_) (fun G' g => ?_)
      · obtain ⟨s2, h2⟩ := g
        rw [List.getElem?_map] at hx'
        obtain ⟨y, hy, rfl⟩ := Option.map_eq_some_iff.mp hx'
        have mem := List.mem_of_getElem? hy
        have li := (List.getElem?_eq_some_iff.mp hy).1
        refine ⟨rfl, _, rfl, _, rfl, itD s.cs y, ws.map PyData.str, ?_, dpT (hw _), shpY layC y (fun z e => hlay z (e ▸ mem)), shpT lw, _, h2, ?_, same_put s2 nD, ?_⟩
        · cases y with
          | none => exact dpT (SqT.of (s2 _ _ (hq0 mem)))
          | some z => exact .str z
        · rw [List.length_map, List.length_take]
          omega
        · rw [eqB, List.take_succ, hy]
          simp only [Option.toList, List.map_append]
          exact upd_same
      · obtain ⟨s2, h2⟩ := g
        rw [List.length_map, List.take_length] at h2
        refine ⟨D, its.map (itB ws), rfl, SqL.of (by rw [List.map_map]; exact h2), ?_⟩
        rw [hany]
        exact k G' (SG.trans s2)
    · rw [if_neg z] at at2
      obtain ⟨q0, a1, a2⟩ := at2
      refine ⟨p, qc, _, _, rfl, rfl, SqT.of a1, SqT.of hqc, by simp, by simp; omega, fun e => ?_, fun n p2 n2 => ?_⟩
      · have eI : (V.str s.w :: (s.mid.map V.str ++ [.ref q0])) = (((s.w :: s.mid).map some ++ [none]) : List (Option Str)).map (itV q0) := by
          rw [List.map_append, mapS]
          rfl
        have e0 : s.cs = [] := List.map_eq_nil_iff.mp e
        let its : List (Option Str) := ((s.w :: s.mid).map some ++ [none] : List (Option Str))
        let G : Hp := H2
        have SG : Same H G := SH
        have hx : SqT K G p (its.map (itV q0)) := by
          have := SqT.of (K := K) a1
          rw [eI] at this
          exact this
        have hq0 : none ∈ its → G q0 = some (.tup (s.cs.map V.str)) := fun _ => a2
        have lits : its.length ≤ 1000 := by
          show (((s.w :: s.mid).map some ++ [none] : List (Option Str))).length ≤ 1000
          simp only [List.length_append, List.length_map, List.length_cons, List.length_nil]
          omega
        have hlay : ∀ y, some y ∈ its → PyData.canLay0 (.str y) = true := fun y hy => by
          have hy : some y ∈ ((s.w :: s.mid).map some ++ [none] : List (Option Str)) := hy
          simp only [List.mem_append, List.mem_map, List.mem_singleton, reduceCtorEq, or_false, Option.some.injEq, exists_eq_right] at hy
          exact lay y hy
        have hany : (its.map (itB ws)).any id = hasW s ws := by
          show ((((s.w :: s.mid).map some ++ [none] : List (Option Str))).map (itB ws)).any id = hasW s ws
          rw [List.map_append, List.any_append, mapB]
          unfold hasW
          rw [e0, List.append_nil]
          exact Bool.or_false _
        refine ⟨_, rfl, ⟨_, hx⟩, fun D nD => ?_⟩
        refine lc_tup (K := K) (xs := its.map (itV q0)) (fun i G' => Same G G' ∧ G' D = some (.lst ((its.take i).map fun y => V.bl (itB ws y)))) ⟨Same.new nD, upd_same⟩ (fun i G' _ g => sqT_same' g.1 hx) (fun i x G' hx' g => ?_) (fun G' g => ?_)
        · obtain ⟨s2, h2⟩ := g
          rw [List.getElem?_map] at hx'
          obtain ⟨y, hy, rfl⟩ := Option.map_eq_some_iff.mp hx'
          have mem := List.mem_of_getElem? hy
          have li := (List.getElem?_eq_some_iff.mp hy).1
          refine ⟨rfl, _, rfl, _, rfl, itD s.cs y, ws.map PyData.str, ?_, dpT (hw _), shpY layC y (fun z e => hlay z (e ▸ mem)), shpT lw, _, h2, ?_, same_put s2 nD, ?_⟩
          · cases y with
            | none => exact dpT (SqT.of (s2 _ _ (hq0 mem)))
            | some z => exact .str z
          · rw [List.length_map, List.length_take]
            omega
          · rw [eqB, List.take_succ, hy]
            simp only [Option.toList, List.map_append]
            exact upd_same
        · obtain ⟨s2, h2⟩ := g
          rw [List.length_map, List.take_length] at h2
          refine ⟨D, its.map (itB ws), rfl, SqL.of (by rw [List.map_map]; exact h2), ?_⟩
          rw [hany]
          exact k G' (SG.trans s2)
      · have eI : (V.str s.w :: (s.mid.map V.str ++ [.ref q0])) = (((s.w :: s.mid).map some ++ [none]) : List (Option Str)).map (itV q0) := by
          rw [List.map_append, mapS]
          rfl
        let its : List (Option Str) := ((s.w :: s.mid).map some ++ [none] ++ s.cs.map some : List (Option Str))
        let G : Hp := upd H2 p2 (.tup (V.str s.w :: (s.mid.map V.str ++ [.ref q0]) ++ s.cs.map V.str))
        have SG : Same H G := SH.trans (Same.new n2)
        have hx : SqT K G p2 (its.map (itV q0)) := by
          have : SqT K G p2 (V.str s.w :: (s.mid.map V.str ++ [.ref q0]) ++ s.cs.map V.str) := SqT.of upd_same
          rw [eI, ← mapS (q := q0) (l := s.cs), ← List.map_append] at this
          exact this
        have hq0 : none ∈ its → G q0 = some (.tup (s.cs.map V.str)) := fun _ => (Same.new n2) _ _ a2
        have lits : its.length ≤ 1000 := by
          show (((s.w :: s.mid).map some ++ [none] ++ s.cs.map some : List (Option Str))).length ≤ 1000
          simp only [List.length_append, List.length_map, List.length_cons, List.length_nil]
          omega
        have hlay : ∀ y, some y ∈ its → PyData.canLay0 (.str y) = true := fun y hy => by
          have hy : some y ∈ ((s.w :: s.mid).map some ++ [none] ++ s.cs.map some : List (Option Str)) := hy
          simp only [List.mem_append, List.mem_map, List.mem_singleton, reduceCtorEq, or_false, Option.some.injEq, exists_eq_right] at hy
          rcases hy with hy | hy
          · exact lay y hy
          · exact layC y hy
        have hany : (its.map (itB ws)).any id = hasW s ws := by
          show ((((s.w :: s.mid).map some ++ [none] ++ s.cs.map some : List (Option Str))).map (itB ws)).any id = hasW s ws
          rw [List.map_append, List.any_append, List.map_append, List.any_append, mapB, mapB]
          unfold hasW
          rw [← List.cons_append, List.any_append]
          show (((s.w :: s.mid).any ws.contains || (false || false)) || s.cs.any ws.contains) = _
          rw [Bool.or_false, Bool.or_false]
        refine ⟨_, rfl, ⟨_, hx⟩, fun D nD => ?_⟩
        refine lc_tup (K := K) (xs := its.map (itV q0)) (fun i G' => Same G G' ∧ G' D = some (.lst ((its.take i).map fun y => V.bl (itB ws y)))) ⟨Same.new nD, upd_same⟩ (fun i G' _ g => sqT_same' g.1 hx) (fun i x G' hx' g => ?_) (fun G' g => ?_)
        · obtain ⟨s2, h2⟩ := g
          rw [List.getElem?_map] at hx'
          obtain ⟨y, hy, rfl⟩ := Option.map_eq_some_iff.mp hx'
          have mem := List.mem_of_getElem? hy
          have li := (List.getElem?_eq_some_iff.mp hy).1
          refine ⟨rfl, _, rfl, _, rfl, itD s.cs y, ws.map PyData.str, ?_, dpT (hw _), shpY layC y (fun z e => hlay z (e ▸ mem)), shpT lw, _, h2, ?_, same_put s2 nD, ?_⟩
          · cases y with
            | none => exact dpT (SqT.of (s2 _ _ (hq0 mem)))
            | some z => exact .str z
          · rw [List.length_map, List.length_take]
            omega
          · rw [eqB, List.take_succ, hy]
            simp only [Option.toList, List.map_append]
            exact upd_same
        · obtain ⟨s2, h2⟩ := g
          rw [List.length_map, List.take_length] at h2
          refine ⟨D, its.map (itB ws), rfl, SqL.of (by rw [List.map_map]; exact h2), ?_⟩
          rw [hany]
          exact k G' (SG.trans s2)
end
end K09

set_option maxRecDepth 100000
set_option maxHeartbeats 4000000
namespace K09
open PySem PySem.Spec PyProof.Rows L2 He VH RZ
abbrev sNre : Stmt := top 28
abbrev sNin : Stmt := top 29
abbrev FnNre (K : PySem.W.Frag) (fd : FuncData) : Prop := FnP K "needs_read" sNre (ga K "needs_read") fd
abbrev FnNin (K : PySem.W.Frag) (fd : FuncData) : Prop := FnP K "needs_input" sNin (ga K "needs_input") fd
theorem lay_pl : ∀ w ∈ heads, PyData.canLay0 (.str w) = true ∧ ∀ l ∈ plcs w, ∀ z ∈ l, PyData.canLay0 (.str z) = true := by decide +kernel
theorem Stp.lay {s : Stp} (ok : s.ok = true) : ∀ z ∈ s.w :: s.mid, PyData.canLay0 (.str z) = true := by
  obtain ⟨f1, f2, f3, _, _⟩ := Stp.facts ok
  obtain ⟨g1, g2⟩ := lay_pl s.w f1
  intro z hz
  rcases List.mem_cons.mp hz with rfl | hz
  · exact g1
  · obtain ⟨i, hi, rfl⟩ := List.mem_iff_getElem.mp hz
    have hi2 : i < (plcs s.w).length := by omega
    have m : (s.mid[i], (plcs s.w)[i]) ∈ s.mid.zip (plcs s.w) := by
      rw [List.mem_iff_getElem]
      exact ⟨i, by rw [List.length_zip]; omega, by simp⟩
    exact g2 _ (List.getElem_mem hi2) _ (List.contains_iff_mem.mp (List.all_eq_true.mp f3 _ m))
abbrev rdW : List Str := ["put", "read", "copy", "same old", "same new"]
abbrev tkW : List Str := ["insert", "input"]
def spNd (K : PySem.W.Frag) (ws : List Str) : Sp := fun vs H Q E => ∃ x : V, vs = [x] ∧ ((IsSt K H x false ∧ Rn K E H) ∨ ∃ p s, x = .ref p ∧ StAt H p s ∧ s.ok = true ∧ ∀ H', Same H H' → Q (.bl (hasW s ws)) H')
section
variable {P : Program} {w : World} {K : PySem.W.Frag} {mg : Str → Option Value} {base : Heap} {f : Addr} {fd fdI fdW fdS fdN fdC fdT fdH : FuncData}
theorem bNre (F : FnNre K fd) : Binds K fd ["statement"] [] := FunD.bindsN F fun _ _ _ _ _ _ us hl => match us, hl with | [_], _ => rfl
theorem bNin (F : FnNin K fd) : Binds K fd ["statement"] [] := FunD.bindsN F fun _ _ _ _ _ _ us hl => match us, hl with | [_], _ => rfl
theorem scNre : FnScope ["statement"] ["statement"] (defScope sNre) := ⟨rfl, rfl, rfl, by decide +kernel, rfl, by decide +kernel, by decide +kernel⟩
theorem scNin : FnScope ["statement"] ["statement"] (defScope sNin) := ⟨rfl, rfl, rfl, by decide +kernel, rfl, by decide +kernel, by decide +kernel⟩
theorem pass_c {X : Cx} {E : XK} (tk : Takes X (fun cls d _ H => E cls d H)) : Passes (L2.CX X.prog X.w) X E := passes_call tk (fun _ _ _ _ h => h)
theorem ok_nre (F : FnP K "needs_read" sNre f fd) (T : Txt K mg w) (FH : FnHas K fdH) (FT : FnIst K fdT) (FC : FnChk K fdC) (FN : FnNos K fdN) (FW : FnWrd K fdW) (FS : FnWds K fdS) : FnOk P w K mg base (L2.CX P w) 5 f fd ["statement"] (spNd K rdW) := by
  have GH : FnOk P w K mg base (L2.CX P w) 4 (ga K "has_word") fdH ["statement", "words"] (spHas K) := ok_has FH T FT FC FN FW FS
  refine F.ok scNre (fun vs H Q E h => ?_) (fun cdv A outer s H vs Q E hr h => ?_)
  · obtain ⟨x, rfl, _⟩ := h
    rfl
  refine ⟨_, pss_one (ps_ret (pe_call GH hr (by rfl) T.m_has_word FH.kp (bHas FH) .nil (pass_c (takes_of rfl rfl rfl rfl)) (pa_cons (pv 0) (pa_cons (pe_glob (v := .ref (ga K "READING")) (by rfl) T.m_READING rfl) pa_nil)))), ?_⟩
  obtain ⟨x, rfl, way⟩ := h
  refine ⟨_, rfl, x, _, rdW, rfl, T.t_READING, by decide +kernel, ?_⟩
  exact way.imp id fun ⟨p, s, e, a, ok, k⟩ => ⟨p, s, e, a, ok, Stp.lay ok, k⟩
theorem ok_nin (F : FnP K "needs_input" sNin f fd) (T : Txt K mg w) (FH : FnHas K fdH) (FT : FnIst K fdT) (FC : FnChk K fdC) (FN : FnNos K fdN) (FW : FnWrd K fdW) (FS : FnWds K fdS) : FnOk P w K mg base (L2.CX P w) 5 f fd ["statement"] (spNd K tkW) := by
  have GH : FnOk P w K mg base (L2.CX P w) 4 (ga K "has_word") fdH ["statement", "words"] (spHas K) := ok_has FH T FT FC FN FW FS
  refine F.ok scNin (fun vs H Q E h => ?_) (fun cdv A outer s H vs Q E hr h => ?_)
  · obtain ⟨x, rfl, _⟩ := h
    rfl
  refine ⟨_, pss_one (ps_ret (pe_call GH hr (by rfl) T.m_has_word FH.kp (bHas FH) .nil (pass_c (takes_of rfl rfl rfl rfl)) (pa_cons (pv 0) (pa_cons (pe_glob (v := .ref (ga K "TAKING")) (by rfl) T.m_TAKING rfl) pa_nil)))), ?_⟩
  obtain ⟨x, rfl, way⟩ := h
  refine ⟨_, rfl, x, _, tkW, rfl, T.t_TAKING, by decide +kernel, ?_⟩
  exact way.imp id fun ⟨p, s, e, a, ok, k⟩ => ⟨p, s, e, a, ok, Stp.lay ok, k⟩
end
end K09

set_option maxRecDepth 100000
set_option maxHeartbeats 4000000
namespace K09
open PySem PySem.Spec PyProof.Rows L2 He VH RZ
/-! steps of a writer -/
def rdT : Tr := .tup [.str "read"]
def isRd (t : Tr) : Bool := match t with
  | .tup [u] => Tr.wordT u ["read"]
  | _ => false
/-- a step: a read, a statement, or neither -/
inductive Sd where
  | read
  | st (s : Stp)
  | odd (t : Tr)
def Sd.tr : Sd → Tr
  | .read => rdT
  | .st s => s.tr
  | .odd t => t
def Sd.isR : Sd → Bool
  | .read => true
  | _ => false
def SdAt (K : PySem.W.Frag) (H : Hp) (x : V) : Sd → Prop
  | .read => At K H x rdT
  | .st s => ∃ p, x = .ref p ∧ StAt H p s ∧ s.ok = true
  | .odd t => At K H x t ∧ t.fine = true ∧ isRd t = false ∧ isSt t = false
theorem SdAt.same {K : PySem.W.Frag} {H H' : Hp} {x : V} {d : Sd} (h : SdAt K H x d) (s : Same H H') : SdAt K H' x d := by
  cases d with
  | read => exact At.same s h
  | st t =>
    obtain ⟨p, e, a, ok⟩ := h
    exact ⟨p, e, a.same fun b xs q => s _ _ q, ok⟩
  | odd t => exact ⟨At.same s h.1, h.2⟩
theorem SdAt.at {K : PySem.W.Frag} {H : Hp} {x : V} {d : Sd} (h : SdAt K H x d) : At K H x d.tr := by
  cases d with
  | read => exact h
  | st t =>
    obtain ⟨p, rfl, a, ok⟩ := h
    exact a.tr
  | odd t => exact h.1
theorem rd_all0 : ∀ s ∈ allSt, isRd s.tr = false := by decide +kernel
theorem SdAt.fine {K : PySem.W.Frag} {H : Hp} {x : V} {d : Sd} (h : SdAt K H x d) : d.tr.fine = true := by
  cases d with
  | read => decide +kernel
  | st t =>
    obtain ⟨p, rfl, a, ok⟩ := h
    exact (tr_all t (mem_all ok)).1
  | odd t => exact h.2.1
theorem SdAt.rd {K : PySem.W.Frag} {H : Hp} {x : V} {d : Sd} (h : SdAt K H x d) : isRd d.tr = d.isR := by
  cases d with
  | read => decide +kernel
  | st t =>
    obtain ⟨p, rfl, a, ok⟩ := h
    exact rd_all0 t (mem_all ok)
  | odd t => exact h.2.2.1
/-- steps -/
inductive SdL (K : PySem.W.Frag) (H : Hp) : List V → List Sd → Prop
  | nil : SdL K H [] []
  | cons {x : V} {d : Sd} {xs : List V} {ds : List Sd} (h : SdAt K H x d) (hs : SdL K H xs ds) : SdL K H (x :: xs) (d :: ds)
theorem SdL.same {K : PySem.W.Frag} {H H' : Hp} (s : Same H H') : ∀ {xs : List V} {ds : List Sd}, SdL K H xs ds → SdL K H' xs ds
  | _, _, .nil => .nil
  | _, _, .cons h hs => .cons (h.same s) (hs.same s)
theorem SdL.len {K : PySem.W.Frag} {H : Hp} : ∀ {xs : List V} {ds : List Sd}, SdL K H xs ds → xs.length = ds.length
  | _, _, .nil => rfl
  | _, _, .cons _ hs => congrArg Nat.succ hs.len
theorem SdL.get {K : PySem.W.Frag} {H : Hp} : ∀ {xs : List V} {ds : List Sd}, SdL K H xs ds → ∀ {i : Nat} {x : V}, xs[i]? = some x → ∃ d, ds[i]? = some d ∧ SdAt K H x d
  | _, _, .nil, i, _, h => by simp at h
  | _, _, .cons h hs, 0, x, e => by
    simp at e
    subst e
    exact ⟨_, rfl, h⟩
  | _, _, .cons h hs, i + 1, x, e => by
    obtain ⟨t, h1, h2⟩ := hs.get (i := i) (by simpa using e)
    exact ⟨t, by simpa using h1, h2⟩
theorem SdL.take {K : PySem.W.Frag} {H : Hp} : ∀ {xs : List V} {ds : List Sd}, SdL K H xs ds → ∀ n : Nat, SdL K H (xs.take n) (ds.take n)
  | _, _, .nil, n => by simpa using SdL.nil
  | _, _, .cons h hs, 0 => .nil
  | _, _, .cons h hs, n + 1 => .cons h (hs.take n)
/-- an own instance's fields are stored: all stands -/
theorem SqT.ins' {K : PySem.W.Frag} {H H' : Hp} {a C dx b : Addr} {fs : List (Str × V)} {xs : List V} (h : SqT K H b xs) (ha : H a = some (.ins C dx fs)) (e : ∀ c u, c ≠ a → H c = some u → H' c = some u) : SqT K H' b xs := by
  rcases h with (h | ⟨o, h⟩) | h
  · exact .inl (.inl (e _ _ (fun z => by rw [z, ha] at h; cases h) h))
  · exact .inl (.inr ⟨o, e _ _ (fun z => by rw [z, ha] at h; cases h) h⟩)
  · exact .inr h
theorem SqL.ins' {K : PySem.W.Frag} {H H' : Hp} {a C dx b : Addr} {fs : List (Str × V)} {xs : List V} (h : SqL K H b xs) (ha : H a = some (.ins C dx fs)) (e : ∀ c u, c ≠ a → H c = some u → H' c = some u) : SqL K H' b xs := by
  rcases h with (h | ⟨o, h⟩) | h
  · exact .inl (.inl (e _ _ (fun z => by rw [z, ha] at h; cases h) h))
  · exact .inl (.inr ⟨o, e _ _ (fun z => by rw [z, ha] at h; cases h) h⟩)
  · exact .inr h
mutual
theorem At.ins {K : PySem.W.Frag} {H H' : Hp} {a C dx : Addr} {fs : List (Str × V)} (ha : H a = some (.ins C dx fs)) (e : ∀ c u, c ≠ a → H c = some u → H' c = some u) : ∀ {x : V} {t : Tr}, At K H x t → At K H' x t
  | _, _, .non => .non
  | _, _, .bl => .bl
  | _, _, .int => .int
  | _, _, .str => .str
  | _, _, .dct h => .dct (e _ _ (fun z => by rw [z, ha] at h; cases h) h)
  | _, _, .tup h hs => .tup (SqT.ins' h ha e) (Ats.ins ha e hs)
  | _, _, .lst h hs => .lst (SqL.ins' h ha e) (Ats.ins ha e hs)
theorem Ats.ins {K : PySem.W.Frag} {H H' : Hp} {a C dx : Addr} {fs : List (Str × V)} (ha : H a = some (.ins C dx fs)) (e : ∀ c u, c ≠ a → H c = some u → H' c = some u) : ∀ {xs : List V} {ts : List Tr}, Ats K H xs ts → Ats K H' xs ts
  | _, _, .nil => .nil
  | _, _, .cons h hs => .cons (At.ins ha e h) (Ats.ins ha e hs)
end
theorem SdAt.ins {K : PySem.W.Frag} {H H' : Hp} {a C dx : Addr} {fs : List (Str × V)} {x : V} {d : Sd} (h : SdAt K H x d) (ha : H a = some (.ins C dx fs)) (e : ∀ c u, c ≠ a → H c = some u → H' c = some u) : SdAt K H' x d := by
  cases d with
  | read => exact At.ins ha e h
  | st t =>
    obtain ⟨p, q, b, ok⟩ := h
    exact ⟨p, q, b.same fun b xs q => e _ _ (fun z => by rw [z, ha] at q; cases q) q, ok⟩
  | odd t => exact ⟨At.ins ha e h.1, h.2⟩
theorem SdL.ins {K : PySem.W.Frag} {H H' : Hp} {a C dx : Addr} {fs : List (Str × V)} : ∀ {xs : List V} {ds : List Sd}, SdL K H xs ds → (ha : H a = some (.ins C dx fs)) → (e : ∀ c u, c ≠ a → H c = some u → H' c = some u) → SdL K H' xs ds
  | _, _, .nil, _, _ => .nil
  | _, _, .cons h hs, ha, e => .cons (h.ins ha e) (hs.ins ha e)
/-- the step at a place is right -/
def fits (ds : List Sd) (k : Nat) : Bool := match ds[k]? with
  | some .read => decide ((k : Int) < (ds.length : Int) - 1)
  | some (.st s) => (ds.take k).any Sd.isR || !hasW s rdW
  | some (.odd _) => false
  | none => false
abbrev sIrd : Stmt := top 34
abbrev sIbr : Stmt := top 35
abbrev sFit : Stmt := top 36
abbrev FnIrd (K : PySem.W.Frag) (fd : FuncData) : Prop := FnP K "is_read" sIrd (ga K "is_read") fd
abbrev FnIbr (K : PySem.W.Frag) (fd : FuncData) : Prop := FnP K "is_behind_read" sIbr (ga K "is_behind_read") fd
abbrev FnFit (K : PySem.W.Frag) (fd : FuncData) : Prop := FnP K "step_fits" sFit (ga K "step_fits") fd
theorem bIrd {K : PySem.W.Frag} {fd : FuncData} (F : FnIrd K fd) : Binds K fd ["step"] [] := FunD.bindsN F fun _ _ _ _ _ _ us hl => match us, hl with | [_], _ => rfl
theorem bIbr {K : PySem.W.Frag} {fd : FuncData} (F : FnIbr K fd) : Binds K fd ["steps", "at"] [] := FunD.bindsN F fun _ _ _ _ _ _ us hl => match us, hl with | [_, _], _ => rfl
theorem bFit {K : PySem.W.Frag} {fd : FuncData} (F : FnFit K fd) : Binds K fd ["steps", "at"] [] := FunD.bindsN F fun _ _ _ _ _ _ us hl => match us, hl with | [_, _], _ => rfl
def spIrd (K : PySem.W.Frag) : Sp := fun vs H Q _ => ∃ (x : V) (t : Tr), vs = [x] ∧ At K H x t ∧ ∀ H', Same H H' → Q (.bl (isRd t)) H'
def spIbr (K : PySem.W.Frag) : Sp := fun vs H Q _ => ∃ (p : Addr) (k : Nat) (xs : List V) (ds : List Sd), vs = [.ref p, .int k] ∧ SqT K H p xs ∧ SdL K H xs ds ∧ k < xs.length ∧ xs.length ≤ 1000 ∧ ∀ H', Same H H' → Q (.bl ((ds.take k).any Sd.isR)) H'
def spFit (K : PySem.W.Frag) : Sp := fun vs H Q _ => ∃ (p : Addr) (k : Nat) (xs : List V) (ds : List Sd), vs = [.ref p, .int k] ∧ SqT K H p xs ∧ SdL K H xs ds ∧ k < xs.length ∧ xs.length ≤ 1000 ∧ ∀ H', Same H H' → Q (.bl (fits ds k)) H'
section
variable {P : Program} {w : World} {K : PySem.W.Frag} {mg : Str → Option Value} {base : Heap} {f : Addr} {fd fdI fdW fdS fdN fdC fdT fdH fdR fdB fdE : FuncData}
theorem scIrd : FnScope ["step"] ["step"] (defScope sIrd) := ⟨rfl, rfl, rfl, by decide +kernel, rfl, by decide +kernel, by decide +kernel⟩
theorem ok_ird (F : FnP K "is_read" sIrd f fd) (T : Txt K mg w) (FW : FnWrd K fdW) : FnOk P w K mg base CX0 2 f fd ["step"] (spIrd K) := by
  have GW : FnOk P w K mg base CX0 1 (ga K "is_word") fdW ["value", "words"] (spWrd K) := ok_wrd FW T
  refine F.ok scIrd (fun vs H Q E h => ?_) (fun cdv A outer s H vs Q E hr h => ?_)
  · obtain ⟨x, t, rfl, _⟩ := h
    rfl
  refine ⟨_, PSs.nox (pss_one (ps_ret (pe_and (pe_callB call_isi (by rfl) T.g_isinstance boot_isinstance (pa_cons (pv 0) (pa_cons (pe_bltn (v := .ty "tuple") (by rfl) T.g_tuple boot_tuple rfl) pa_nil)))
    (pe_and (pe_cmpR op_eq (pe_callB call_len_seq (by rfl) T.g_len boot_len (pa_cons (pv 0) pa_nil)) pe_int (nomark _))
    (pe_one (pe_call GW hr (by rfl) T.m_is_word FW.kp (bWrd FW) .nil pass0 (pa_cons (pe_ix ix_tup (pv 0) pe_int (fun _ _ => rfl)) (pa_cons (pe_tup (pa_cons pe_str pa_nil)) pa_nil)))))))), ?_⟩
  obtain ⟨x, t, rfl, hx, k⟩ := h
  by_cases nt : ∃ us, t = .tup us
  case neg =>
    have e : isRd t = false := by
      unfold isRd
      split
      · exact absurd ⟨_, rfl⟩ nt
      · rfl
    rw [e] at k
    exact ⟨_, rfl, _, _, _, _, false, rfl, .ty "tuple", hx.ty, noTup (fun us e => nt ⟨us, e⟩) _, false, rfl, iteF (k H (Same.refl H))⟩
  obtain ⟨ts, rfl⟩ := nt
  cases hx with
  | tup h hs =>
    rename_i p xs
    have lx := hs.len
    refine ⟨_, rfl, _, _, _, _, true, rfl, .ty "tuple", sqT_ty h, kit_ty (by decide +kernel), true, rfl, iteT ?_⟩
    refine ⟨_, rfl, _, _, rfl, .inr h, rfl, _, rfl, ?_⟩
    by_cases l1 : ts.length = 1
    case neg =>
      have e : isRd (.tup ts) = false := by
        unfold isRd
        split
        · rename_i e
          cases e
          exact absurd rfl l1
        · rfl
      rw [e] at k
      rw [decide_eq_false (fun e => l1 (by have := V.int.inj e; omega))]
      exact iteF (k H (Same.refl H))
    rw [decide_eq_true (by rw [lx, l1]; rfl)]
    obtain ⟨u, rfl⟩ : ∃ u, ts = [u] := by
      match ts, l1 with
      | [u], _ => exact ⟨u, rfl⟩
    cases hs with
    | cons hu hn =>
      cases hn
      rename_i y
      refine iteT ⟨_, rfl, _, _, _, _, rfl, rfl, h, at0, (show 1 ≤ sizeLine by decide), fun q nq => ?_⟩
      have S := Same.new (o := .tup [.str "read"]) nq
      refine ⟨y, q, ["read"], rfl, SqT.of upd_same, ?_⟩
      by_cases ns : ∃ z, u = .str z
      · obtain ⟨z, rfl⟩ := ns
        cases hu
        exact .inl ⟨z, rfl, k _ S⟩
      · have e : isRd (.tup [u]) = false := by
          show Tr.wordT u ["read"] = false
          unfold Tr.wordT
          split
          · exact absurd ⟨_, rfl⟩ ns
          · rfl
        rw [e] at k
        exact .inr ⟨(hu.same S).noTx fun z e => ns ⟨z, e⟩, k _ S⟩
abbrev nIbr : List Str := ["steps", "at", "step"]
theorem scIbr : FnScope nIbr ["steps", "at"] (defScope sIbr) := ⟨rfl, rfl, rfl, by decide +kernel, rfl, by decide +kernel, by decide +kernel⟩
theorem cut_take {xs : List V} {k : Nat} (h : k ≤ xs.length) : cutV xs none (some (k : Int)) = xs.take k := by
  have e : HT.sIx xs.length xs.length (some (k : Int)) = k := by
    unfold HT.sIx
    simp only
    rw [if_neg (by omega)]
    omega
  unfold cutV
  rw [e]
  show (List.drop 0 xs).take (k - 0) = xs.take k
  simp
theorem not_whole {xs : List V} {k : Nat} {lo : Option Int} (h : k < xs.length) : ¬ (HT.sIx xs.length 0 lo = 0 ∧ HT.sIx xs.length xs.length (some (k : Int)) = xs.length) := fun z => by
  have e : HT.sIx xs.length xs.length (some (k : Int)) = k := by
    unfold HT.sIx
    simp only
    rw [if_neg (by omega)]
    omega
  rw [e] at z
  omega
theorem ok_ibr (F : FnP K "is_behind_read" sIbr f fd) (T : Txt K mg w) (FR : FnIrd K fdR) (FW : FnWrd K fdW) : FnOk P w K mg base CX0 3 f fd ["steps", "at"] (spIbr K) := by
  have GR : FnOk P w K mg base CX0 2 (ga K "is_read") fdR ["step"] (spIrd K) := ok_ird FR T FW
  refine F.ok scIbr (fun vs H Q E h => ?_) (fun cdv A outer s H vs Q E hr h => ?_)
  · obtain ⟨_, _, _, _, rfl, _⟩ := h
    rfl
  refine ⟨_, PSs.nox (pss_one (ps_ret (pe_callB (cr_any rfl) (by rfl) T.g_any boot_any (pa_cons (pe_lc (own := [("step", 2)]) (g := gName 2) (tt := tYes) (te := tCall (spIrd K) [] E0 (tCons (tVar 2) tNil)) rfl scIbr.nd
        (pi_tup (pe_slice sl_tup (pv 0) po_none (po_some (pv 1)))) (blkOk_by (N := nIbr) (sc := defScope sIbr) (by decide +kernel))
        (fun _ _ _ _ _ => pg_name (i := 2) scIbr.nd rfl (Or.inl rfl)) (fun _ _ _ _ _ => pts_nil) (fun _ _ _ _ _ => pe_call GR hr (by rfl) T.m_is_read FR.kp (bIrd FR) .nil pass0 (pa_cons (pv 2) pa_nil))) pa_nil)))), ?_⟩
  obtain ⟨p, n, xs, ds, rfl, hp, hd, ln, lx, k⟩ := h
  have big : 1000 < sizeLine := by decide
  refine ⟨_, rfl, _, rfl, _, rfl, p, xs, rfl, hp, not_whole ln, fun q nq => ?_⟩
  rw [cut_take (Nat.le_of_lt ln)]
  have S := Same.new (o := .tup (xs.take n)) nq
  have hq : upd H q (.tup (xs.take n)) q = some (.tup (xs.take n)) := upd_same
  have hdt := (hd.take n).same S
  have lt : (xs.take n).length ≤ 1000 := by rw [List.length_take]; omega
  generalize xs.take n = ys at S hq hdt lt ⊢
  generalize ds.take n = es at hdt k
  generalize upd H q (.tup ys) = G at S hq hdt ⊢
  refine ⟨_, rfl, ⟨_, SqT.of hq⟩, fun D nD => ?_⟩
  have ly := hdt.len
  refine lc_tup (K := K) (xs := ys) (fun i G' => Same G G' ∧ G' D = some (.lst (((es.take i).map Sd.isR).map V.bl))) ⟨Same.new nD, upd_same⟩ (fun i G' _ g => SqT.of (g.1 _ _ hq)) (fun i x G' hx g => ?_) (fun G' g => ?_)
  · obtain ⟨s2, h2⟩ := g
    obtain ⟨d, hd', at_⟩ := hdt.get hx
    have li := (List.getElem?_eq_some_iff.mp hx).1
    refine ⟨rfl, _, rfl, x, d.tr, rfl, (at_.same s2).at, fun G2 s3 => ?_⟩
    rw [at_.rd]
    refine ⟨_, s3 _ _ h2, ?_, same_put (s2.trans s3) nD, ?_⟩
    · rw [List.length_map, List.length_map, List.length_take]
      omega
    · rw [upd_same, List.take_succ, hd']
      simp
  · obtain ⟨s2, h2⟩ := g
    rw [ly, List.take_length] at h2
    refine ⟨D, _, rfl, SqL.of h2, ?_⟩
    have := k G' (S.trans s2)
    rw [List.any_map]
    exact this
theorem scFit : FnScope ["steps", "at"] ["steps", "at"] (defScope sFit) := ⟨rfl, rfl, rfl, by decide +kernel, rfl, by decide +kernel, by decide +kernel⟩
/-- all that the writer's defs call -/
structure PDefs (K : PySem.W.Frag) : Prop where
  wrd : ∃ fd, FnWrd K fd
  wds : ∃ fd, FnWds K fd
  ist : ∃ fd, FnIst K fd
  chk : ∃ fd, FnChk K fd
  has : ∃ fd, FnHas K fd
  nre : ∃ fd, FnNre K fd
  nin : ∃ fd, FnNin K fd
  nos : ∃ fd, FnNos K fd
  ird : ∃ fd, FnIrd K fd
  ibr : ∃ fd, FnIbr K fd
  fit : ∃ fd, FnFit K fd
theorem ok_fit (F : FnP K "step_fits" sFit f fd) (T : Txt K mg w) (D : PDefs K) : FnOk P w K mg base CX0 6 f fd ["steps", "at"] (spFit K) := by
  obtain ⟨dW, FW⟩ := D.wrd
  obtain ⟨dS, FS⟩ := D.wds
  obtain ⟨dI, FI⟩ := D.ist
  obtain ⟨dC, FC⟩ := D.chk
  obtain ⟨dH, FH⟩ := D.has
  obtain ⟨dN, FN⟩ := D.nre
  obtain ⟨dO, FO⟩ := D.nos
  obtain ⟨dR, FR⟩ := D.ird
  obtain ⟨dB, FB⟩ := D.ibr
  have GI : FnOk P w K mg base CX0 3 (ga K "is_statement") dI ["value"] (spIst K) := ok_ist FI T FW FS
  have GN : FnOk P w K mg base (L2.CX P w) 5 (ga K "needs_read") dN ["statement"] (spNd K rdW) := ok_nre FN T FH FI FC FO FW FS
  have GR : FnOk P w K mg base CX0 2 (ga K "is_read") dR ["step"] (spIrd K) := ok_ird FR T FW
  have GB : FnOk P w K mg base CX0 3 (ga K "is_behind_read") dB ["steps", "at"] (spIbr K) := ok_ibr FB T FR FW
  refine F.ok scFit (fun vs H Q E h => ?_) (fun cdv A outer s H vs Q E hr h => ?_)
  · obtain ⟨_, _, _, _, rfl, _⟩ := h
    rfl
  refine ⟨_, PSs.nox (pss_cons (ps_if (pt_val (pe_call GR (hr.mono (by decide)) (by rfl) T.m_is_read FR.kp (bIrd FR) .nil pass0 (pa_cons (pe_ix ix_tup (pv 0) (pv 1) (fun _ _ => rfl)) pa_nil)))
      (pss_one (ps_ret (pe_cmpR op_lt (pv 1) (pe_op op_sub (pe_callB call_len_seq (by rfl) T.g_len boot_len (pa_cons (pv 0) pa_nil)) pe_int) (nomark _)))) pss_nil)
    (pss_cons (ps_if (pt_not (pt_val (pe_call GI (hr.mono (by decide)) (by rfl) T.m_is_statement FI.kp (bIst FI) .nil pass0 (pa_cons (pe_ix ix_tup (pv 0) (pv 1) (fun _ _ => rfl)) pa_nil)))) (pss_one (ps_ret pe_bl)) pss_nil)
    (pss_one (ps_ret (pe_or (pe_call GB (hr.mono (by decide)) (by rfl) T.m_is_behind_read FB.kp (bIbr FB) .nil pass0 (pa_cons (pv 0) (pa_cons (pv 1) pa_nil)))
      (pe_one (pe_not (pe_call GN hr (by rfl) T.m_needs_read FN.kp (bNre FN) .nil passN (pa_cons (pe_ix ix_tup (pv 0) (pv 1) (fun _ _ => rfl)) pa_nil))))))))), ?_⟩
  obtain ⟨p, n, xs, ds, rfl, hp, hd, ln, lx, k⟩ := h
  have hx : xs[n]? = some xs[n] := List.getElem?_eq_getElem ln
  generalize xs[n] = x at hx
  obtain ⟨d, ed, at_⟩ := hd.get hx
  have at0' : atI xs (n : Int) = some x := atI_nat hx
  have ef : fits ds n = (match some d with
    | some .read => decide ((n : Int) < (ds.length : Int) - 1)
    | some (.st s) => (ds.take n).any Sd.isR || !hasW s rdW
    | some (.odd _) => false
    | none => false) := by
    unfold fits
    rw [ed]
  rw [ef] at k
  refine ⟨_, rfl, _, rfl, _, _, _, _, rfl, rfl, hp, at0', x, d.tr, rfl, at_.at, fun H1 S1 => ⟨isRd d.tr, rfl, ?_⟩⟩
  rw [at_.rd]
  cases d with
  | read =>
    refine iteT ⟨_, rfl, _, rfl, _, _, rfl, .inr (sqT_same' S1 hp), _, _, rfl, rfl, _, _, rfl, rfl, ?_⟩
    have := k H1 S1
    rw [← hd.len] at this
    exact this
  | odd t =>
    refine iteF ⟨_, rfl, _, rfl, _, _, _, _, rfl, rfl, sqT_same' S1 hp, at0', x, false, rfl, ⟨t, (at_.same S1).1, at_.2.1, at_.2.2.2⟩, fun H2 S2 => ⟨false, rfl, iteT (k H2 (S1.trans S2))⟩⟩
  | st s =>
    obtain ⟨q, rfl, sa, ok⟩ := at_
    have sa1 := sa.same fun b xs e => S1 _ _ e
    refine iteF ⟨_, rfl, _, rfl, _, _, _, _, rfl, rfl, sqT_same' S1 hp, at0', _, true, rfl, sa1.is ok, fun H2 S2 => ⟨true, rfl, iteF ?_⟩⟩
    have S02 := S1.trans S2
    have k := fun H' S => k H' S
    refine ⟨_, rfl, _, rfl, p, n, xs, ds, rfl, sqT_same' S02 hp, hd.same S02, ln, lx, fun H3 S3 => ⟨_, rfl, ?_⟩⟩
    cases rb : (ds.take n).any Sd.isR with
    | true =>
      have := k H3 (S02.trans S3)
      simp only [rb, Bool.true_or] at this
      exact iteT this
    | false =>
      refine iteF ⟨_, rfl, _, rfl, _, _, _, _, rfl, rfl, sqT_same' (S02.trans S3) hp, at0', _, rfl, .inr ⟨q, s, rfl, sa.same (fun b xs e => (S02.trans S3) _ _ e), ok, fun H4 S4 => ⟨_, rfl, ?_⟩⟩⟩
      have := k H4 ((S02.trans S3).trans S4)
      simp only [rb, Bool.false_or] at this
      exact this
end
end K09

set_option maxRecDepth 100000
set_option maxHeartbeats 4000000
namespace K09
open PySem PySem.Spec PyProof.Rows L2 He VH RZ
/-! a Writer made -/
abbrev sNoW : Stmt := inClass (top 3) 0
abbrev sWrI : Stmt := inClass (top 37) 0
abbrev FnNoW (K : PySem.W.Frag) (fd : FuncData) : Prop := FnM K "__init__" "NoWriter.__init__" 3 0 (ma K (ga K "NoWriter") "__init__") fd
abbrev FnWrI (K : PySem.W.Frag) (fd : FuncData) : Prop := FnM K "__init__" "Writer.__init__" 37 0 (ma K (ga K "Writer") "__init__") fd
/-- NoWriter(u, i) is raised out of H -/
def Rw (K : PySem.W.Frag) (E : XK) (H : Hp) (u : Str) (i : Int) : Prop := ∀ (d : Addr) (H' : Hp), H d = none → Same H H' → H' d = some (.xd [("index", .int i), ("part", .str u)]) → E (.ref (ga K "NoWriter")) (some d) H'
theorem Rw.same {K : PySem.W.Frag} {E : XK} {H H' : Hp} {u : Str} {i : Int} (h : Rw K E H u i) (s : Same H H') : Rw K E H' u i := fun d H2 n s2 e => h d H2 (s.free n) (s.trans s2) e
def isN (K : PySem.W.Frag) (H : Hp) (x : V) (r : Option Str) : Prop := (∃ z : Str, x = .str z ∧ z.length ≤ 1000 ∧ r = if nameB z = true then some z else none) ∨ (NoTx K H x ∧ r = none)
theorem isN.same {K : PySem.W.Frag} {H H' : Hp} {x : V} {r : Option Str} (h : isN K H x r) (s : Same H H') : isN K H' x r := h.imp id fun h => ⟨h.1.same s, h.2⟩
/-- the first step that is not right -/
def bad (ds : List Sd) : Option Nat := (List.range ds.length).find? fun k => !fits ds k
/-- what is refused first -/
def refuse (r0 : Option Str) (ds : List Sd) : Option (Str × Int) :=
  if r0 = none then some ("name", -1) else if ¬ (1 ≤ ds.length ∧ ds.length ≤ 3) then some ("steps", -1) else (bad ds).map fun k => ("steps", (k : Int))
def needs (ds : List Sd) : Bool := ds.any fun d => match d with
  | .st s => hasW s tkW
  | _ => false
/-- a Writer at a -/
def WrAt (K : PySem.W.Frag) (H : Hp) (a : Addr) (z : Str) (xs : List V) (b : Bool) : Prop := ∃ dx t : Addr, H a = some (.ins (ga K "Writer") dx [("name", .str z), ("steps", .ref t), ("needs_input", .bl b)]) ∧ H t = some (.tup xs)
def spWri (K : PySem.W.Frag) : Sp := fun vs H Q E => ∃ (a dx p : Addr) (x0 : V) (r0 : Option Str) (xs : List V) (ds : List Sd), vs = [.ref a, x0, .ref p] ∧ H a = some (.ins (ga K "Writer") dx []) ∧ H p = some (.tup xs) ∧
  isN K H x0 r0 ∧ SdL K H xs ds ∧ xs.length ≤ 1000 ∧ (∀ u i, refuse r0 ds = some (u, i) → Rw K E H u i) ∧
  (∀ z, r0 = some z → refuse r0 ds = none → ∀ H', But a H H' → WrAt K H' a z xs (needs ds) → Q .non H')
/-- .. as it is called -/
def spWr (K : PySem.W.Frag) : Sp := fun vs H Q E => ∃ ws rest, vs = ws ++ rest ∧ ws.length = 2 ∧ rest.length ≤ sizeLine ∧ ∀ p, H p = Option.none → spWri K (ws ++ [V.ref p]) (upd H p (.tup rest)) Q E
section
variable {P : Program} {w : World} {K : PySem.W.Frag} {mg : Str → Option Value} {base : Heap} {f : Addr} {fd fdN fdX fdF fdR fdI : FuncData}
theorem scNoW : FnScope ["self", "part", "index"] ["self", "part", "index"] (defScope sNoW) := ⟨rfl, rfl, rfl, by decide +kernel, rfl, by decide +kernel, by decide +kernel⟩
theorem okNoW (F : FnM K "__init__" "NoWriter.__init__" 3 0 f fd) : FnOk P w K mg base CX0 1 f fd ["self", "part", "index"] (spIni K ["part", "index"]) := by
  refine F.ok scNoW (fun vs H Q E h => ?_) (fun cdv A outer s H vs Q E hr h => ?_)
  · obtain ⟨a, C, v, u, rfl, _⟩ := ini2 h
    rfl
  refine ⟨_, PSs.nox (pss_cons (ps_ost (pv 0) (pv 1)) (pss_one (ps_ost (pv 0) (pv 2)))), ?_⟩
  obtain ⟨a, C, v, u, rfl, T, no, no2, ha, k⟩ := ini2 h
  refine ⟨_, rfl, _, rfl, a, C, rfl, T, no, .inl ⟨ha, fun dx n ne => ?_⟩⟩
  exact ⟨_, rfl, _, rfl, a, C, rfl, T, no2, .inr ⟨dx, _, upd_same, (upd_ne ne).trans upd_same, (show 1 ≤ 900 by decide), k dx n ne⟩⟩
theorem bNoW (F : FnM K "__init__" "NoWriter.__init__" 3 0 f fd) : Binds K fd ["self", "part", "index"] [] := FunD.bindsN F fun _ _ _ _ _ _ us hl => match us, hl with | [_, _, _], _ => rfl
abbrev nWrI : List Str := ["self", "name", "steps", "at", "step"]
theorem scWrI : FnScope nWrI ["self", "name", "steps"] (defScope sWrI) := ⟨rfl, rfl, rfl, by decide +kernel, rfl, by decide +kernel, by decide +kernel⟩
theorem body_wri (T : Txt K mg w) (D : PDefs K) (fns : Fns K) {cdv : Value} {A : Around} {outer : List Env} {s : Shared} {H : Hp} {vs : List V} {Q : VK} {E : XK} (hr : Room 6 (A.deeper (envOfC "Writer.__init__" (defScope sWrI) s.heap.objs.size f cdv))) (h : spWri K vs H Q E) :
    ∃ t, PSs (cxOf (L2.CX P w) P w K mg base nWrI "Writer.__init__" (defScope sWrI) f cdv A outer s H E) (defBody sWrI) t ∧ t { nx := fun _ H' => Q .non H', rt := Q } (L2.start nWrI vs) H := by
  obtain ⟨dN, FN⟩ := fns.f_is_name
  obtain ⟨dX, FX⟩ := fns.f_NoWriter_init
  obtain ⟨dW, FW⟩ := D.wrd
  obtain ⟨dS, FS⟩ := D.wds
  obtain ⟨dI, FI⟩ := D.ist
  obtain ⟨dC, FC⟩ := D.chk
  obtain ⟨dH, FH⟩ := D.has
  obtain ⟨dO, FO⟩ := D.nos
  obtain ⟨dM, FM⟩ := D.nin
  obtain ⟨dR, FR⟩ := D.ird
  obtain ⟨dF, FF⟩ := D.fit
  have GN : FnOk P w K mg base CX0 1 (ga K "is_name") dN ["value"] (spNam K) := ok_nam FN T
  have GF : FnOk P w K mg base CX0 6 (ga K "step_fits") dF ["steps", "at"] (spFit K) := ok_fit FF T D
  have GR : FnOk P w K mg base CX0 2 (ga K "is_read") dR ["step"] (spIrd K) := ok_ird FR T FW
  have GM : FnOk P w K mg base (L2.CX P w) 5 (ga K "needs_input") dM ["statement"] (spNd K tkW) := ok_nin FM T FH FI FC FO FW FS
  have rN : ∀ {p1 p2 p3 p4 p5 p6 : Pos} {j j2 : Nat} {wd : Str}, PS (cxOf (L2.CX P w) P w K mg base nWrI "Writer.__init__" (defScope sWrI) f cdv A outer s H E) (.Raise (some (.Call (.Name "NoWriter" p1) [.Constant (.str wd) j p2, .UnaryOp .USub (.Constant (.int 1) j2 p5) p6] [] p3)) none p4) _ := fun {p1 p2 p3 p4 p5 p6 j j2 wd} =>
    ps_raise rfl (takes_of rfl rfl rfl rfl) (pmk_oex T.x_NoWriter.mkx.toOexC T.x_NoWriter.mkx.ini T.x_NoWriter.mkx.tyI (okNoW FX) (hr.mono (by decide)) (bNoW FX) .nil pass0 (by rfl) T.m_NoWriter (pa_cons pe_str (pa_cons (pe_un un_neg pe_int) pa_nil)))
  refine ⟨_, pss_cons (ps_if (pt_not (pt_val (pe_call GN (hr.mono (by decide)) (by rfl) T.m_is_name FN.kp (bNam FN) .nil pass0 (pa_cons (pv 1) pa_nil)))) (pss_one rN) pss_nil)
    (pss_cons (ps_if (pt_not (pt_chain op_le op_le pe_int (pe_callB call_len_seq (by rfl) T.g_len boot_len (pa_cons (pv 2) pa_nil)) pe_int)) (pss_one rN) pss_nil)
    (pss_cons (ps_for (passes_of rfl) rfl (pi_range1 rfl T.g_range (pa_cons (pe_callB call_len_seq (by rfl) T.g_len boot_len (pa_cons (pv 2) pa_nil)) pa_nil)) (pg_name (i := 3) scWrI.nd rfl (Or.inl rfl))
        (pss_one (ps_if (pt_not (pt_val (pe_call GF hr (by rfl) T.m_step_fits FF.kp (bFit FF) .nil pass0 (pa_cons (pv 2) (pa_cons (pv 3) pa_nil))))) (pss_one
          (ps_raise rfl (takes_of rfl rfl rfl rfl) (pmk_oex T.x_NoWriter.mkx.toOexC T.x_NoWriter.mkx.ini T.x_NoWriter.mkx.tyI (okNoW FX) (hr.mono (by decide)) (bNoW FX) .nil pass0 (by rfl) T.m_NoWriter (pa_cons pe_str (pa_cons (pv 3) pa_nil))))) pss_nil)))
    (pss_cons (ps_fld (pv 0) (pv 1) rfl)
    (pss_cons (ps_fld (pv 0) (pv 2) rfl)
    (pss_one (ps_fld (pv 0) (pe_callB (cr_any rfl) (by rfl) T.g_any boot_any (pa_cons (pe_lc (own := [("step", 4)]) (g := gName 4) (tt := tNot (tB (tCall (spIrd K) [] E0 (tCons (tVar 4) tNil)))) (te := tCall (spNd K tkW) [] (fun _ _ _ => False) (tCons (tVar 4) tNil)) rfl scWrI.nd
        (pi_tup (pv 2)) (blkOk_by (N := nWrI) (sc := defScope sWrI) (by decide +kernel))
        (fun _ _ _ _ _ => pg_name (i := 4) scWrI.nd rfl (Or.inl rfl)) (fun _ _ _ _ _ => pts_one (pt_not (pt_val (pe_call GR (hr.mono (by decide)) (by rfl) T.m_is_read FR.kp (bIrd FR) .nil pass0 (pa_cons (pv 4) pa_nil)))))
        (fun _ _ _ _ _ => pe_call GM (hr.mono (by decide)) (by rfl) T.m_needs_input FM.kp (bNin FM) .nil passN (pa_cons (pv 4) pa_nil))) pa_nil)) rfl)))))), ?_⟩
  obtain ⟨a, dx, p, x0, r0, xs, ds, rfl, ha, hp, h0, hd, lx, rz, k⟩ := h
  have ld := hd.len
  have go : ∀ {G : Hp} {wd : Str} {i : Int}, Rw K E G wd i → ([V.str wd, V.int i].length ≤ 1000 ∧ ∀ p, G p = none → spIni K ["part", "index"] [.ref p, .str wd, .int i] (upd G p (exo p (ga K "NoWriter") none)) (fun v H2 => v = .non ∧ ∃ (d : Addr) (fs : List (Str × V)), H2 p = some (exo p (ga K "NoWriter") (some d)) ∧ H2 d = some (exd d fs) ∧ G d = none ∧ E (.ref (ga K "NoWriter")) (some d) (upd (del H2 p) d (.xd fs))) (fun _ _ _ => False)) :=
    fun {G wd i} z => ⟨(show 2 ≤ 1000 by decide), fun p n => read_raise T.x_NoWriter [.str wd, .int i] n rfl rfl (by simp) rfl fun d H' nd s e => z d H' nd s e⟩
  have rw_ : ∀ {G : Hp} {u : Str} {i : Int}, Same H G → refuse r0 ds = some (u, i) → Rw K E G u i := fun S e => (rz _ _ e).same S
  -- the name
  rcases h0 with ⟨z, rfl, lz, e0⟩ | ⟨no, e0⟩
  case inr => exact ⟨_, rfl, _, rfl, .inr ⟨no, fun H1 S1 => ⟨false, rfl, iteT ⟨1, rfl, go (rw_ S1 (by unfold refuse; rw [if_pos e0]))⟩⟩⟩⟩
  cases nb : nameB z
  case false =>
    rw [nb] at e0
    have e0 : r0 = none := e0
    exact ⟨_, rfl, _, rfl, .inl ⟨z, rfl, lz, fun H1 S1 => ⟨nameB z, rfl, by rw [nb]; exact iteT ⟨1, rfl, go (rw_ S1 (by unfold refuse; rw [if_pos e0]))⟩⟩⟩⟩
  rw [nb] at e0
  have e0 : r0 = some z := e0
  have n0 : ¬ r0 = none := by rw [e0]; simp
  refine ⟨_, rfl, _, rfl, .inl ⟨z, rfl, lz, fun H1 S1 => ⟨nameB z, rfl, ?_⟩⟩⟩
  rw [nb]
  refine iteF ?_
  have big : 1000 < sizeLine := by decide
  -- the number of steps
  refine ⟨_, rfl, p, _, rfl, .inr (SqT.of (S1 _ _ hp)), _, _, rfl, rfl, ?_⟩
  refine ⟨_, rfl, ?_⟩
  have toNum : ¬ (1 ≤ ds.length ∧ ds.length ≤ 3) → refuse r0 ds = some (("steps" : Str), (-1 : Int)) := fun q => by unfold refuse; rw [if_neg n0, if_pos q]
  cases l1 : decide ((1 : Int) ≤ (xs.length : Nat)) with
  | false =>
    have := of_decide_eq_false l1
    exact iteF ⟨false, rfl, iteT ⟨1, rfl, go (rw_ S1 (toNum (by omega)))⟩⟩
  | true =>
  have l1 := of_decide_eq_true l1
  refine iteT ⟨_, _, rfl, rfl, _, rfl, ?_⟩
  cases l2 : decide (((xs.length : Nat) : Int) ≤ 3) with
  | false =>
    have := of_decide_eq_false l2
    exact iteT ⟨1, rfl, go (rw_ S1 (toNum (by omega)))⟩
  | true =>
  have l2 := of_decide_eq_true l2
  refine iteF ?_
  -- each step
  have hpp := S1 _ _ hp
  refine ⟨_, rfl, p, _, rfl, .inr (SqT.of hpp), _, rfl, by omega, by omega, ?_⟩
  have el : ((xs.length : Nat) : Int).toNat = xs.length := by omega
  rw [el]
  refine for_range (lo := 0) (n := xs.length) (fun i σ G => (∃ v3 v4, σ = [some (.ref a), some (.str z), some (.ref p), v3, v4]) ∧ Same H1 G ∧ ∀ m, m < i → fits ds m = true) ⟨⟨_, _, rfl⟩, Same.refl _, fun m hm => absurd hm (Nat.not_lt_zero m)⟩ (fun i σ G li g => ?_) (fun σ G g => ?_)
  · obtain ⟨⟨v3, v4, rfl⟩, sG, ok⟩ := g
    have S1G := S1.trans sG
    refine ⟨_, rfl, _, rfl, p, i, xs, ds, by rw [Int.zero_add]; rfl, SqT.of (S1G _ _ hp), hd.same S1G, li, lx, fun G2 S2 => ⟨_, rfl, ?_⟩⟩
    cases fi : fits ds i with
    | false =>
      have e : bad ds = some i := by
        unfold bad
        rw [List.find?_range_eq_some]
        refine ⟨by rw [fi]; rfl, List.mem_range.mpr (by omega), fun m hm => ?_⟩
        rw [ok m hm]
        rfl
      have er : refuse r0 ds = some (("steps" : Str), (i : Int)) := by
        unfold refuse
        rw [if_neg n0, if_neg (by omega), e]
        rfl
      refine iteT ⟨_, rfl, ?_⟩
      rw [Int.zero_add]
      exact go (rw_ (S1G.trans S2) er)
    | true =>
      refine iteF ⟨⟨_, _, rfl⟩, sG.trans S2, fun m hm => ?_⟩
      by_cases q : m = i
      · rw [q]; exact fi
      · exact ok m (by omega)
  · obtain ⟨⟨v3, v4, rfl⟩, sG, ok⟩ := g
    have e : bad ds = none := by
      unfold bad
      rw [List.find?_eq_none]
      intro m hm
      rw [ok m (by have := List.mem_range.mp hm; omega)]
      simp
    have er : refuse r0 ds = none := by
      unfold refuse
      rw [if_neg n0, if_neg (by omega), e]
      rfl
    have S1G := S1.trans sG
    have kk := k z e0 er
    clear rz rw_ go toNum
    have haG := S1G _ _ ha
    have hpG := S1G _ _ hp
    have hdG := hd.same S1G
    have B0 : But a H G := But.of S1G
    have npa : p ≠ a := fun e => by
      rw [e, ha] at hp
      cases hp
    clear S1 hpp sG S1G hd ha hp
    -- name, steps
    refine ⟨_, rfl, _, rfl, a, _, dx, _, rfl, haG, T.c_Writer, T.n_Writer_name, (show 0 < 1000 by decide), ?_⟩
    refine ⟨_, rfl, _, rfl, a, _, dx, _, rfl, upd_same, T.c_Writer, T.n_Writer_steps, (show 1 < 1000 by decide), ?_⟩
    have B2 := (B0.trans (But.upd (a := a) (H := G) (o := .ins (ga K "Writer") dx [("name", .str z)]))).trans (But.upd (a := a) (o := .ins (ga K "Writer") dx [("name", .str z), ("steps", .ref p)]))
    have ha2 : upd (upd G a (.ins (ga K "Writer") dx [("name", .str z)])) a (.ins (ga K "Writer") dx [("name", .str z), ("steps", .ref p)]) a = some (.ins (ga K "Writer") dx [("name", .str z), ("steps", .ref p)]) := upd_same
    have hp2 : upd (upd G a (.ins (ga K "Writer") dx [("name", .str z)])) a (.ins (ga K "Writer") dx [("name", .str z), ("steps", .ref p)]) p = some (.tup xs) := by
      rw [upd_ne npa, upd_ne npa]
      exact hpG
    have hd2 : SdL K (upd (upd G a (.ins (ga K "Writer") dx [("name", .str z)])) a (.ins (ga K "Writer") dx [("name", .str z), ("steps", .ref p)])) xs ds := (hdG.ins haG (fun c u n e => (upd_ne n).trans e)).ins upd_same (fun c u n e => (upd_ne n).trans e)
    -- needs_input
    refine ⟨_, rfl, p, rfl, ⟨_, SqT.of hp2⟩, fun D nD => ?_⟩
    have fit : ∀ (m : Nat) (d : Sd), ds[m]? = some d → d = .read ∨ ∃ s, d = .st s := fun m d e => by
      have lm := (List.getElem?_eq_some_iff.mp e).1
      have := ok m (by omega)
      unfold fits at this
      rw [e] at this
      cases d with
      | read => exact .inl rfl
      | st s => exact .inr ⟨s, rfl⟩
      | odd t => cases this
    let nd : Sd → Option Bool := fun d => match d with
      | .st s => some (hasW s tkW)
      | _ => none
    refine lc_tup (K := K) (xs := xs) (fun i G' => Same (upd (upd G a (.ins (ga K "Writer") dx [("name", .str z)])) a (.ins (ga K "Writer") dx [("name", .str z), ("steps", .ref p)])) G' ∧ G' D = some (.lst (((ds.take i).filterMap nd).map V.bl))) ⟨Same.new nD, upd_same⟩ (fun i G' _ g => SqT.of (g.1 _ _ hp2)) (fun i x G' hx g => ?_) (fun G' g => ?_)
    · obtain ⟨s2, h2⟩ := g
      obtain ⟨d, hd', at_⟩ := hd2.get hx
      have li := (List.getElem?_eq_some_iff.mp hx).1
      refine ⟨rfl, _, rfl, x, d.tr, rfl, (at_.same s2).at, fun G3 s3 => ⟨_, rfl, ?_⟩⟩
      rw [at_.rd]
      rcases fit i d hd' with rfl | ⟨s, rfl⟩
      · refine iteF ⟨s2.trans s3, ?_⟩
        rw [s3 _ _ h2, List.take_succ, hd']
        simp [nd]
      · obtain ⟨q, rfl, sa, sok⟩ := at_
        refine iteT ⟨_, rfl, _, rfl, .inr ⟨q, s, rfl, sa.same (fun b xs e => (s2.trans s3) _ _ e), sok, fun G4 s4 => ?_⟩⟩
        refine ⟨_, s4 _ _ (s3 _ _ h2), ?_, same_put ((s2.trans s3).trans s4) nD, ?_⟩
        · have := List.length_filterMap_le nd (ds.take i)
          rw [List.length_take] at this
          rw [List.length_map]
          omega
        · rw [upd_same, List.take_succ, hd']
          simp [nd]
    · obtain ⟨s2, h2⟩ := g
      rw [ld, List.take_length] at h2
      refine ⟨D, _, rfl, SqL.of h2, ?_⟩
      have en : ((ds.filterMap nd).any fun x => x) = needs ds := by
        unfold needs
        rw [List.any_filterMap]
        congr 1
        funext d
        cases d <;> rfl
      refine ⟨_, rfl, a, _, dx, _, rfl, s2 _ _ ha2, T.c_Writer, T.n_Writer_needs_input, (show 2 < 1000 by decide), ?_⟩
      refine kk _ ((B2.trans (But.of s2)).trans But.upd) ⟨dx, p, ?_, (upd_ne npa).trans (s2 _ _ hp2)⟩
      rw [← en]
      exact upd_same
theorem ok_wri (F : FnWrI K fd) (T : Txt K mg w) (D : PDefs K) (fns : Fns K) : FnR P w K mg base (L2.CX P w) 7 (ma K (ga K "Writer") "__init__") (spWr K) := by
  obtain ⟨oc, od, dV, kV, doc, pm, an, cdv, ct, osl, rfl, lk, hcd, hD, hK⟩ := F.ex
  rcases hD with ⟨_, rfl⟩ | ⟨e, _⟩
  · exact StX.fn_star (ps := ["self", "name"]) (pv := "steps") lk hcd scWrI StX.cxUp (StX.bind_star2 (B := fun l => bindArgs (PySem.W.fnOf "__init__" "Writer.__init__" (defArgs (inClass (top 37) 0)) (defBody (inClass (top 37) 0)) (defScope (inClass (top 37) 0)) .none kV doc pm an cdv ct) ⟨l, []⟩) (p1 := "self") (p2 := "name") (pv := "steps") (fun _ _ => rfl) (fun _ _ _ _ => rfl)) fun A outer s H vs Q E hr h => body_wri T D fns hr h
  · exact absurd rfl e
end
end K09

set_option maxRecDepth 100000
set_option maxHeartbeats 4000000
namespace K09
open PySem PySem.Spec PyProof.Rows L2 He VH
/-! a Phase made -/
abbrev sNoP : Stmt := inClass (top 5) 0
abbrev sPhI : Stmt := inClass (top 40) 0
abbrev FnNoP (K : PySem.W.Frag) (fd : FuncData) : Prop := FnM K "__init__" "NoPhase.__init__" 5 0 (ma K (ga K "NoPhase") "__init__") fd
/-- c(w) is raised out of H -/
def Rz (K : PySem.W.Frag) (E : XK) (H : Hp) (c w : Str) : Prop := ∀ (d : Addr) (H' : Hp), H d = none → Same H H' → H' d = some (.xd [("part", .str w)]) → E (.ref (ga K c)) (some d) H'
theorem Rz.same {K : PySem.W.Frag} {E : XK} {H H' : Hp} {c w : Str} (h : Rz K E H c w) (s : Same H H') : Rz K E H' c w := fun d H2 n s2 e => h d H2 (s.free n) (s.trans s2) e
/-- no truth -/
def NoBl (K : PySem.W.Frag) (H : Hp) (x : V) : Prop := ∀ H', Same H H' → ∃ t, TyX K H' x t ∧ PySem.W.kitOne K t (.type "bool") = some false
theorem NoBl.same {K : PySem.W.Frag} {H H' : Hp} {x : V} (h : NoBl K H x) (s : Same H H') : NoBl K H' x := fun H2 s2 => h H2 (s.trans s2)
def isL (K : PySem.W.Frag) (H : Hp) (ok : List V → Bool) (x : V) (r : Option (List V)) : Prop := (∃ (a : Addr) (xs : List V), x = .ref a ∧ SqV K H a xs ∧ Told K H xs ∧ xs.length ≤ 1000 ∧ r = if ok xs = true then some xs else none) ∨ (NoSq K H x ∧ r = none)
def isB (K : PySem.W.Frag) (H : Hp) (x : V) (r : Option Bool) : Prop := (∃ b, x = .bl b ∧ r = some b) ∨ (NoBl K H x ∧ r = none)
theorem isL.same {K : PySem.W.Frag} {H H' : Hp} {ok : List V → Bool} {x : V} {r : Option (List V)} (h : isL K H ok x r) (s : Same H H') : isL K H' ok x r :=
  h.imp (fun ⟨a, xs, e, v, t, l, q⟩ => ⟨a, xs, e, v.same s, t.same s, l, q⟩) fun h => ⟨h.1.same s, h.2⟩
theorem isB.same {K : PySem.W.Frag} {H H' : Hp} {x : V} {r : Option Bool} (h : isB K H x r) (s : Same H H') : isB K H' x r := h.imp id fun h => ⟨h.1.same s, h.2⟩
abbrev prW : List Str := ["right", "mild", "kept", "once"]
abbrev waW : List Str := ["done", "drained"]
/-- the part that is refused first -/
def wrong (r0 : Option Str) (r1 : Option (List V)) (r2 : Option Bool) (r3 r4 : Option (List V)) : Option Str :=
  if r0 = none then some "name" else if r1 = none then some "writers" else if r2 = none then some "fills" else if r3 = none then some "promises" else if r4 = none then some "waits" else none
/-- a Phase at a -/
def PhAt (K : PySem.W.Frag) (H : Hp) (a : Addr) (z : Str) (ws : List V) (b : Bool) (ps qs : List V) : Prop := ∃ dx t1 t2 t3 : Addr, H a = some (.ins (ga K "Phase") dx [("name", .str z), ("writers", .ref t1), ("fills", .bl b), ("promises", .ref t2), ("waits", .ref t3)]) ∧
  SqT K H t1 ws ∧ SqT K H t2 ps ∧ SqT K H t3 qs
def spPhI (K : PySem.W.Frag) : Sp := fun vs H Q E => ∃ (a dx : Addr) (x0 x1 x2 x3 x4 : V) (r0 : Option Str) (r1 : Option (List V)) (r2 : Option Bool) (r3 r4 : Option (List V)), vs = [.ref a, x0, x1, x2, x3, x4] ∧ H a = some (.ins (ga K "Phase") dx []) ∧
  isN K H x0 r0 ∧ isL K H nmsB x1 r1 ∧ isB K H x2 r2 ∧ isL K H (fun xs => wdsB xs prW) x3 r3 ∧ isL K H (fun xs => wdsB xs waW) x4 r4 ∧
  (∀ u, wrong r0 r1 r2 r3 r4 = some u → Rz K E H "NoPhase" u) ∧
  (∀ z ws b ps qs, r0 = some z → r1 = some ws → r2 = some b → r3 = some ps → r4 = some qs → ∀ H', But a H H' → PhAt K H' a z ws b ps qs → Q .non H')
section
variable {P : Program} {w : World} {K : PySem.W.Frag} {mg : Str → Option Value} {base : Heap} {f : Addr} {fd : FuncData}
theorem scNoP : FnScope ["self", "part"] ["self", "part"] (defScope sNoP) := ⟨rfl, rfl, rfl, by decide +kernel, rfl, by decide +kernel, by decide +kernel⟩
theorem okNoP (F : FnM K "__init__" "NoPhase.__init__" 5 0 f fd) : FnOk P w K mg base CX0 1 f fd ["self", "part"] (spIni K ["part"]) := by
  refine F.ok scNoP (fun vs H Q E h => ?_) (fun cdv A outer s H vs Q E hr h => ?_)
  · obtain ⟨a, C, v, rfl, _⟩ := ini1 h
    rfl
  refine ⟨_, PSs.nox (pss_one (ps_ost (pv 0) (pv 1))), ?_⟩
  obtain ⟨a, C, v, rfl, T, no, ha, k⟩ := ini1 h
  exact ⟨_, rfl, _, rfl, a, C, rfl, T, no, .inl ⟨ha, fun dx n ne => k dx n ne⟩⟩
theorem bNoP (F : FnM K "__init__" "NoPhase.__init__" 5 0 f fd) : Binds K fd ["self", "part"] [] := FunD.bindsN F fun _ _ _ _ _ _ us hl => match us, hl with | [_, _], _ => rfl
abbrev kwP (K : PySem.W.Frag) : List (Str × V) := [("writers", .ref (kwA ("Phase", some "__init__") "writers" K)), ("fills", .bl false), ("promises", .ref (kwA ("Phase", some "__init__") "promises" K)), ("waits", .ref (kwA ("Phase", some "__init__") "waits" K))]
abbrev FnPhI (K : PySem.W.Frag) (fd : FuncData) : Prop := FunD K "__init__" "Phase.__init__" (defArgs sPhI) (defBody sPhI) (defScope sPhI) [] (kwP K) (ma K (ga K "Phase") "__init__") fd
abbrev nPhI : List Str := ["self", "name", "writers", "fills", "promises", "waits"]
theorem scPhI : FnScope nPhI nPhI (defScope sPhI) := ⟨rfl, rfl, rfl, by decide +kernel, rfl, by decide +kernel, by decide +kernel⟩
theorem ok_phI (F : FnPhI K fd) (T : Txt K mg w) (fns : Fns K) : FnOk P w K mg base (L2.CX P w) 3 (ma K (ga K "Phase") "__init__") fd nPhI (spPhI K) := by
  obtain ⟨dW, FW⟩ := fns.f_is_word
  obtain ⟨dS, FS⟩ := fns.f_are_words
  obtain ⟨dQ, FQ⟩ := fns.f_is_sequence
  obtain ⟨dN, FN⟩ := fns.f_is_name
  obtain ⟨dM, FM⟩ := fns.f_are_names
  obtain ⟨dX, FX⟩ := fns.f_NoPhase_init
  have GS : FnOk P w K mg base CX0 2 (ga K "are_words") dS ["values", "words"] (spWds K) := ok_wds FS T FW
  have GQ : FnOk P w K mg base CX0 1 (ga K "is_sequence") dQ ["value"] (spSeq K) := ok_seq FQ T
  have GN : FnOk P w K mg base CX0 1 (ga K "is_name") dN ["value"] (spNam K) := ok_nam FN T
  have GM : FnOk P w K mg base CX0 2 (ga K "are_names") dM ["value"] (spNms K) := ok_nms FM T FQ FN
  refine F.ok scPhI (fun vs H Q E h => ?_) (fun cdv A outer s H vs Q E hr h => ?_)
  · obtain ⟨_, _, _, _, _, _, _, _, _, _, _, _, rfl, _⟩ := h
    rfl
  have raise : ∀ {p1 p2 p3 p4 : Pos} {j : Nat} {wd : Str}, PS (cxOf (L2.CX P w) P w K mg base nPhI "Phase.__init__" (defScope sPhI) (ma K (ga K "Phase") "__init__") cdv A outer s H E) (.Raise (some (.Call (.Name "NoPhase" p1) [.Constant (.str wd) j p2] [] p3)) none p4) _ := fun {p1 p2 p3 p4 j wd} =>
    ps_raise rfl (takes_of rfl rfl rfl rfl) (pmk_oex T.x_NoPhase.mkx.toOexC T.x_NoPhase.mkx.ini T.x_NoPhase.mkx.tyI (okNoP FX) (hr.mono (by decide)) (bNoP FX) .nil pass0 (by rfl) T.m_NoPhase (pa_cons pe_str pa_nil))
  refine ⟨_, pss_cons (ps_if (pt_not (pt_val (pe_call GN (hr.mono (by decide)) (by rfl) T.m_is_name FN.kp (bNam FN) .nil pass0 (pa_cons (pv 1) pa_nil)))) (pss_one raise) pss_nil)
    (pss_cons (ps_if (pt_not (pt_val (pe_call GM hr (by rfl) T.m_are_names FM.kp (bNms FM) .nil pass0 (pa_cons (pv 2) pa_nil)))) (pss_one raise) pss_nil)
    (pss_cons (ps_if (pt_not (pt_val (pe_callB call_isi (by rfl) T.g_isinstance boot_isinstance (pa_cons (pv 3) (pa_cons (pe_bltn (v := .ty "bool") (by rfl) T.g_bool boot_bool rfl) pa_nil))))) (pss_one raise) pss_nil)
    (pss_cons (ps_if (PW.pt (pw_or (pt_not (pt_val (pe_call GQ (hr.mono (by decide)) (by rfl) T.m_is_sequence FQ.kp (bSeq FQ) .nil pass0 (pa_cons (pv 4) pa_nil)))) (pw_or1 (pt_not (pt_val (pe_call GS hr (by rfl) T.m_are_words FS.kp (bWds FS) .nil pass0 (pa_cons (pv 4) (pa_cons (pe_glob (v := .ref (ga K "PROMISES")) (by rfl) T.m_PROMISES rfl) pa_nil)))))))) (pss_one raise) pss_nil)
    (pss_cons (ps_if (PW.pt (pw_or (pt_not (pt_val (pe_call GQ (hr.mono (by decide)) (by rfl) T.m_is_sequence FQ.kp (bSeq FQ) .nil pass0 (pa_cons (pv 5) pa_nil)))) (pw_or1 (pt_not (pt_val (pe_call GS hr (by rfl) T.m_are_words FS.kp (bWds FS) .nil pass0 (pa_cons (pv 5) (pa_cons (pe_glob (v := .ref (ga K "WAITS")) (by rfl) T.m_WAITS rfl) pa_nil)))))))) (pss_one raise) pss_nil)
    (pss_cons (ps_fld (pv 0) (pv 1) rfl)
    (pss_cons (ps_fld (pv 0) (pe_callTy call_tupS (by rfl) T.g_tuple boot_tuple (pa_cons (pv 2) pa_nil)) rfl)
    (pss_cons (ps_fld (pv 0) (pv 3) rfl)
    (pss_cons (ps_fld (pv 0) (pe_callTy call_tupS (by rfl) T.g_tuple boot_tuple (pa_cons (pv 4) pa_nil)) rfl)
    (pss_one (ps_fld (pv 0) (pe_callTy call_tupS (by rfl) T.g_tuple boot_tuple (pa_cons (pv 5) pa_nil)) rfl)))))))))), ?_⟩
  obtain ⟨a, dx, x0, x1, x2, x3, x4, r0, r1, r2, r3, r4, rfl, ha, h0, h1, h2, h3, h4, rz, k⟩ := h
  have go : ∀ {G : Hp} {wd : Str}, Rz K E G "NoPhase" wd → ([V.str wd].length ≤ 1000 ∧ ∀ p, G p = none → spIni K ["part"] [.ref p, .str wd] (upd G p (exo p (ga K "NoPhase") none)) (fun v H2 => v = .non ∧ ∃ (d : Addr) (fs : List (Str × V)), H2 p = some (exo p (ga K "NoPhase") (some d)) ∧ H2 d = some (exd d fs) ∧ G d = none ∧ E (.ref (ga K "NoPhase")) (some d) (upd (del H2 p) d (.xd fs))) (fun _ _ _ => False)) :=
    fun {G wd} z => ⟨(show 1 ≤ 1000 by decide), fun p n => read_raise T.x_NoPhase [.str wd] n rfl rfl (by simp) rfl fun d H' nd s e => z d H' nd s e⟩
  have rw_ : ∀ {G : Hp} {u : Str}, Same H G → wrong r0 r1 r2 r3 r4 = some u → Rz K E G "NoPhase" u := fun S e => (rz _ e).same S
  -- name
  rcases h0 with ⟨z, rfl, lz, e0⟩ | ⟨no, e0⟩
  case inr => exact ⟨_, rfl, _, rfl, .inr ⟨no, fun H1 S1 => ⟨false, rfl, iteT (go (rw_ S1 (by unfold wrong; rw [if_pos e0])))⟩⟩⟩
  cases nb : nameB z
  case false =>
    rw [nb] at e0
    have e0 : r0 = none := e0
    exact ⟨_, rfl, _, rfl, .inl ⟨z, rfl, lz, fun H1 S1 => ⟨nameB z, rfl, by rw [nb]; exact iteT (go (rw_ S1 (by unfold wrong; rw [if_pos e0])))⟩⟩⟩
  rw [nb] at e0
  have e0 : r0 = some z := e0
  have n0 : ¬ r0 = none := by rw [e0]; simp
  refine ⟨_, rfl, _, rfl, .inl ⟨z, rfl, lz, fun H1 S1 => ⟨nameB z, rfl, ?_⟩⟩⟩
  rw [nb]
  refine iteF ?_
  -- writers
  rcases h1 with ⟨a1, ws, rfl, v1, t1, l1, e1⟩ | ⟨no, e1⟩
  case inr => exact ⟨_, rfl, _, rfl, .inr ⟨no.same S1, fun H2 S2 => ⟨false, rfl, iteT (go (rw_ (S1.trans S2) (by unfold wrong; rw [if_neg n0, if_pos e1])))⟩⟩⟩
  cases mb : nmsB ws
  case false =>
    rw [mb] at e1
    have e1 : r1 = none := e1
    exact ⟨_, rfl, _, rfl, .inl ⟨a1, ws, rfl, v1.same S1, t1.same S1, l1, fun H2 S2 => ⟨nmsB ws, rfl, by rw [mb]; exact iteT (go (rw_ (S1.trans S2) (by unfold wrong; rw [if_neg n0, if_pos e1])))⟩⟩⟩
  rw [mb] at e1
  have e1 : r1 = some ws := e1
  have n1 : ¬ r1 = none := by rw [e1]; simp
  refine ⟨_, rfl, _, rfl, .inl ⟨a1, ws, rfl, v1.same S1, t1.same S1, l1, fun H2 S2 => ⟨nmsB ws, rfl, ?_⟩⟩⟩
  rw [mb]
  refine iteF ?_
  have S02 := S1.trans S2
  -- fills
  rcases h2 with ⟨b, rfl, e2⟩ | ⟨no, e2⟩
  case inr =>
    obtain ⟨t, ty, kk⟩ := no H2 S02
    exact ⟨_, rfl, _, _, _, _, false, rfl, .ty "bool", ty, kk, false, rfl, iteT (go (rw_ S02 (by unfold wrong; rw [if_neg n0, if_neg n1, if_pos e2])))⟩
  have n2 : ¬ r2 = none := by rw [e2]; simp
  refine ⟨_, rfl, _, _, _, _, true, rfl, .ty "bool", .base (.bl b), kit_ty (by decide +kernel), true, rfl, iteF ?_⟩
  -- promises
  rcases h3 with ⟨a3, ps, rfl, v3, t3, l3, e3⟩ | ⟨no, e3⟩
  case inr => exact ⟨_, rfl, _, rfl, .inr ⟨no.same S02, fun H3 S3 => ⟨false, rfl, iteT (go (rw_ (S02.trans S3) (by unfold wrong; rw [if_neg n0, if_neg n1, if_neg n2, if_pos e3])))⟩⟩⟩
  refine ⟨_, rfl, _, rfl, .inl ⟨a3, ps, rfl, v3.same S02, fun H3 S3 => ⟨true, rfl, iteF ?_⟩⟩⟩
  have S03 := S02.trans S3
  cases pb : wdsB ps prW
  case false =>
    have e3 : r3 = none := by rw [e3]; simp only [pb]; rfl
    exact ⟨_, rfl, a3, _, ps, prW, rfl, v3.same S03, t3.same S03, l3, T.t_PROMISES, by decide, by decide +kernel, fun H4 S4 => ⟨wdsB ps prW, rfl, by rw [pb]; exact iteT (go (rw_ (S03.trans S4) (by unfold wrong; rw [if_neg n0, if_neg n1, if_neg n2, if_pos e3])))⟩⟩
  have e3 : r3 = some ps := by rw [e3]; simp only [pb]; rfl
  have n3 : ¬ r3 = none := by rw [e3]; simp
  refine ⟨_, rfl, a3, _, ps, prW, rfl, v3.same S03, t3.same S03, l3, T.t_PROMISES, by decide, by decide +kernel, fun H4 S4 => ⟨wdsB ps prW, rfl, ?_⟩⟩
  rw [pb]
  refine iteF ?_
  have S04 := S03.trans S4
  -- waits
  rcases h4 with ⟨a4, qs, rfl, v4, t4, l4, e4⟩ | ⟨no, e4⟩
  case inr => exact ⟨_, rfl, _, rfl, .inr ⟨no.same S04, fun H5 S5 => ⟨false, rfl, iteT (go (rw_ (S04.trans S5) (by unfold wrong; rw [if_neg n0, if_neg n1, if_neg n2, if_neg n3, if_pos e4])))⟩⟩⟩
  refine ⟨_, rfl, _, rfl, .inl ⟨a4, qs, rfl, v4.same S04, fun H5 S5 => ⟨true, rfl, iteF ?_⟩⟩⟩
  have S05 := S04.trans S5
  cases qb : wdsB qs waW
  case false =>
    have e4 : r4 = none := by rw [e4]; simp only [qb]; rfl
    exact ⟨_, rfl, a4, _, qs, waW, rfl, v4.same S05, t4.same S05, l4, T.t_WAITS, by decide, by decide +kernel, fun H6 S6 => ⟨wdsB qs waW, rfl, by rw [qb]; exact iteT (go (rw_ (S05.trans S6) (by unfold wrong; rw [if_neg n0, if_neg n1, if_neg n2, if_neg n3, if_pos e4])))⟩⟩
  have e4 : r4 = some qs := by rw [e4]; simp only [qb]; rfl
  refine ⟨_, rfl, a4, _, qs, waW, rfl, v4.same S05, t4.same S05, l4, T.t_WAITS, by decide, by decide +kernel, fun H6 S6 => ⟨wdsB qs waW, rfl, ?_⟩⟩
  rw [qb]
  refine iteF ?_
  have S06 := S05.trans S6
  have ha6 := S06 _ _ ha
  have u1 := v1.same S06
  have u3 := v3.same S06
  have u4 := v4.same S06
  have B6 : But a H H6 := But.of S06
  clear go rw_ rz t1 t3 t4 nb mb pb qb S05 S04 S03 S02 S1 S2 S3 S4 S5 S6 v1 v3 v4
  -- the fields
  refine ⟨_, rfl, _, rfl, a, _, dx, _, rfl, ha6, T.c_Phase, T.n_Phase_name, (show 0 < 1000 by decide), ?_⟩
  have off : ∀ {G : Hp} {o : HO} (c : Addr) (u : HO), c ≠ a → G c = some u → upd G a o c = some u := fun c u n e => (upd_ne n).trans e
  have B7 := B6.trans (But.upd (a := a) (H := H6) (o := .ins (ga K "Phase") dx [("name", .str z)]))
  have w1 := u1.ins (H' := upd H6 a (.ins (ga K "Phase") dx [("name", .str z)])) ha6 off
  have w3 := u3.ins (H' := upd H6 a (.ins (ga K "Phase") dx [("name", .str z)])) ha6 off
  have w4 := u4.ins (H' := upd H6 a (.ins (ga K "Phase") dx [("name", .str z)])) ha6 off
  have ha7 : upd H6 a (.ins (ga K "Phase") dx [("name", .str z)]) a = some (.ins (ga K "Phase") dx [("name", .str z)]) := upd_same
  clear B6 u1 u3 u4 ha6
  refine ⟨_, rfl, a1, ws, rfl, w1, fun t1 G1 T1 h1 => ?_⟩
  have ha8 := T1 _ _ ha7
  refine ⟨_, rfl, a, _, dx, _, rfl, ha8, T.c_Phase, T.n_Phase_writers, (show 1 < 1000 by decide), ?_⟩
  have B9 := (B7.trans (But.of T1)).trans (But.upd (a := a) (H := G1) (o := .ins (ga K "Phase") dx [("name", .str z), ("writers", .ref t1)]))
  have x3 := (w3.same T1).ins (H' := upd G1 a (.ins (ga K "Phase") dx [("name", .str z), ("writers", .ref t1)])) ha8 off
  have x4 := (w4.same T1).ins (H' := upd G1 a (.ins (ga K "Phase") dx [("name", .str z), ("writers", .ref t1)])) ha8 off
  have y1 := h1.ins (H' := upd G1 a (.ins (ga K "Phase") dx [("name", .str z), ("writers", .ref t1)])) ha8 off
  have ha9 : upd G1 a (.ins (ga K "Phase") dx [("name", .str z), ("writers", .ref t1)]) a = some (.ins (ga K "Phase") dx [("name", .str z), ("writers", .ref t1)]) := upd_same
  clear B7 w1 w3 w4 ha7 ha8 T1 h1
  refine ⟨_, rfl, _, rfl, a, _, dx, _, rfl, ha9, T.c_Phase, T.n_Phase_fills, (show 2 < 1000 by decide), ?_⟩
  have B10 := B9.trans (But.upd (a := a) (H := upd G1 a (.ins (ga K "Phase") dx [("name", .str z), ("writers", .ref t1)])) (o := .ins (ga K "Phase") dx [("name", .str z), ("writers", .ref t1), ("fills", .bl b)]))
  have w3 := x3.ins (H' := upd (upd G1 a (.ins (ga K "Phase") dx [("name", .str z), ("writers", .ref t1)])) a (.ins (ga K "Phase") dx [("name", .str z), ("writers", .ref t1), ("fills", .bl b)])) ha9 off
  have w4 := x4.ins (H' := upd (upd G1 a (.ins (ga K "Phase") dx [("name", .str z), ("writers", .ref t1)])) a (.ins (ga K "Phase") dx [("name", .str z), ("writers", .ref t1), ("fills", .bl b)])) ha9 off
  have y1 := y1.ins (H' := upd (upd G1 a (.ins (ga K "Phase") dx [("name", .str z), ("writers", .ref t1)])) a (.ins (ga K "Phase") dx [("name", .str z), ("writers", .ref t1), ("fills", .bl b)])) ha9 off
  have ha10 : upd (upd G1 a (.ins (ga K "Phase") dx [("name", .str z), ("writers", .ref t1)])) a (.ins (ga K "Phase") dx [("name", .str z), ("writers", .ref t1), ("fills", .bl b)]) a = some (.ins (ga K "Phase") dx [("name", .str z), ("writers", .ref t1), ("fills", .bl b)]) := upd_same
  clear B9 x3 x4 ha9
  refine ⟨_, rfl, a3, ps, rfl, w3, fun t2 G2 T2 h2 => ?_⟩
  have ha11 := T2 _ _ ha10
  refine ⟨_, rfl, a, _, dx, _, rfl, ha11, T.c_Phase, T.n_Phase_promises, (show 3 < 1000 by decide), ?_⟩
  have B12 := (B10.trans (But.of T2)).trans (But.upd (a := a) (H := G2) (o := .ins (ga K "Phase") dx [("name", .str z), ("writers", .ref t1), ("fills", .bl b), ("promises", .ref t2)]))
  have x4 := (w4.same T2).ins (H' := upd G2 a (.ins (ga K "Phase") dx [("name", .str z), ("writers", .ref t1), ("fills", .bl b), ("promises", .ref t2)])) ha11 off
  have y1 := (y1.same T2).ins (H' := upd G2 a (.ins (ga K "Phase") dx [("name", .str z), ("writers", .ref t1), ("fills", .bl b), ("promises", .ref t2)])) ha11 off
  have y2 := h2.ins (H' := upd G2 a (.ins (ga K "Phase") dx [("name", .str z), ("writers", .ref t1), ("fills", .bl b), ("promises", .ref t2)])) ha11 off
  have ha12 : upd G2 a (.ins (ga K "Phase") dx [("name", .str z), ("writers", .ref t1), ("fills", .bl b), ("promises", .ref t2)]) a = some (.ins (ga K "Phase") dx [("name", .str z), ("writers", .ref t1), ("fills", .bl b), ("promises", .ref t2)]) := upd_same
  clear B10 w3 w4 ha10 ha11 T2 h2
  refine ⟨_, rfl, a4, qs, rfl, x4, fun t3 G3 T3 h3 => ?_⟩
  have ha13 := T3 _ _ ha12
  refine ⟨_, rfl, a, _, dx, _, rfl, ha13, T.c_Phase, T.n_Phase_waits, (show 4 < 1000 by decide), ?_⟩
  exact k z ws b ps qs e0 e1 e2 e3 e4 _ ((B12.trans (But.of T3)).trans But.upd) ⟨dx, t1, t2, t3, upd_same, (y1.same T3).ins ha13 off, (y2.same T3).ins ha13 off, h3.ins ha13 off⟩
end
end K09

set_option maxRecDepth 100000
set_option maxHeartbeats 4000000
namespace K09
open PySem PySem.Spec PyProof.Rows L2 He VH
/-! Phase(..), by its arguments -/
section
variable {K : PySem.W.Frag} {fd : FuncData}
theorem kPhA (F : FnPhI K fd) : ∃ mv : List Value, KBn K fd nPhI 2 ["writers", "fills", "promises", "waits"] (fun us ws => us ++ (mv ++ ws)) (fun vs zs => vs ++ (((([] : List (Str × V)).map (·.2)) ++ zs))) :=
  FunD.kbinds0 F 2 ["writers", "fills", "promises", "waits"] [] (fun us its ws => us ++ (its ++ ws)) (by simp [kwP]) (by simp) (fun a d b => a.append (d.append b))
    fun D doc pm an cdv ct us mv ws l1 l2 l3 => match us, mv, ws, l1, l2, l3 with
      | [_, _], [], [_, _, _, _], _, _, _ => rfl
theorem kPhB (F : FnPhI K fd) : ∃ mv : List Value, KBn K fd nPhI 1 ["waits", "name"] (fun us ws => us ++ (ws.drop 1 ++ (mv ++ ws.take 1))) (fun vs zs => vs ++ (zs.drop 1 ++ (((kwP K).take 3).map (·.2) ++ zs.take 1))) :=
  FunD.kbinds0 F 1 ["waits", "name"] ((kwP K).take 3) (fun us its ws => us ++ (ws.drop 1 ++ (its ++ ws.take 1))) (by simp [kwP]) (fun q hq => List.mem_of_mem_take hq) (fun a d b => a.append ((b.drop 1).append (d.append (b.take 1))))
    fun D doc pm an cdv ct us mv ws l1 l2 l3 => match us, mv, ws, l1, l2, l3 with
      | [_], [_, _, _], [_, _], _, _, _ => ⟨_, _, _, _, _, _, rfl, rfl, _, _, _, _, _, _, rfl, rfl, _, _, _, _, _, _, rfl, rfl, rfl⟩
theorem kPhC (F : FnPhI K fd) : ∃ mv : List Value, KBn K fd nPhI 2 [] (fun us ws => us ++ (mv ++ ws)) (fun vs zs => vs ++ ((kwP K).map (·.2) ++ zs)) :=
  FunD.kbinds0 F 2 [] (kwP K) (fun us its ws => us ++ (its ++ ws)) (by simp [kwP]) (fun q hq => hq) (fun a d b => a.append (d.append b))
    fun D doc pm an cdv ct us mv ws l1 l2 l3 => match us, mv, ws, l1, l2, l3 with
      | [_, _], [_, _, _, _], [], _, _, _ => ⟨_, _, _, _, _, _, rfl, rfl, _, _, _, _, _, _, rfl, rfl, _, _, _, _, _, _, rfl, rfl, _, _, _, _, _, _, rfl, rfl, rfl⟩
end
end K09

set_option maxRecDepth 100000
set_option maxHeartbeats 4000000
namespace K09
open PySem PySem.Spec PyProof.Rows L2 He VH RZ
/-! integers, bounds, sizes, the statement of a Fill -/
abbrev sInt : Stmt := top 10
abbrev sBtw : Stmt := top 11
abbrev sSiz : Stmt := top 15
abbrev sFst : Stmt := top 38
abbrev FnInt (K : PySem.W.Frag) (fd : FuncData) : Prop := FnP K "is_integer" sInt (ga K "is_integer") fd
abbrev FnBtw (K : PySem.W.Frag) (fd : FuncData) : Prop := FnP K "is_between" sBtw (ga K "is_between") fd
abbrev FnSiz (K : PySem.W.Frag) (fd : FuncData) : Prop := FnP K "is_sized" sSiz (ga K "is_sized") fd
abbrev FnFst (K : PySem.W.Frag) (fd : FuncData) : Prop := FnP K "is_fill_statement" sFst (ga K "is_fill_statement") fd
theorem bInt {K : PySem.W.Frag} {fd : FuncData} (F : FnInt K fd) : Binds K fd ["value"] [] := FunD.bindsN F fun _ _ _ _ _ _ us hl => match us, hl with | [_], _ => rfl
theorem bBtw {K : PySem.W.Frag} {fd : FuncData} (F : FnBtw K fd) : Binds K fd ["value", "least", "most"] [] := FunD.bindsN F fun _ _ _ _ _ _ us hl => match us, hl with | [_, _, _], _ => rfl
theorem bSiz {K : PySem.W.Frag} {fd : FuncData} (F : FnSiz K fd) : Binds K fd ["value", "least", "most"] [] := FunD.bindsN F fun _ _ _ _ _ _ us hl => match us, hl with | [_, _, _], _ => rfl
theorem bFst {K : PySem.W.Frag} {fd : FuncData} (F : FnFst K fd) : Binds K fd ["value"] [] := FunD.bindsN F fun _ _ _ _ _ _ us hl => match us, hl with | [_], _ => rfl
/-- the known type of a value: is it an integer -/
def IntV (K : PySem.W.Frag) (H : Hp) (x : V) (b : Bool) : Prop := ∃ (t : Value) (b1 b2 : Bool), TyX K H x t ∧ PySem.W.kitOne K t (.type "int") = some b1 ∧ PySem.W.kitOne K t (.type "bool") = some b2 ∧ b = (b1 && !b2)
theorem IntV.int {K : PySem.W.Frag} {H : Hp} {i : Int} : IntV K H (.int i) true := ⟨_, true, false, .base (.int i), kit_ty (by decide +kernel), kit_ty (by decide +kernel), rfl⟩
theorem IntV.bl {K : PySem.W.Frag} {H : Hp} {i : Bool} : IntV K H (.bl i) false := ⟨_, true, true, .base (.bl i), kit_ty (by decide +kernel), kit_ty (by decide +kernel), rfl⟩
theorem IntV.str {K : PySem.W.Frag} {H : Hp} {i : Str} : IntV K H (.str i) false := ⟨_, false, false, .base (.str i), kit_ty (by decide +kernel), kit_ty (by decide +kernel), rfl⟩
theorem IntV.non {K : PySem.W.Frag} {H : Hp} : IntV K H .non false := ⟨_, false, false, .base .non, kit_ty (by decide +kernel), kit_ty (by decide +kernel), rfl⟩
theorem IntV.tup {K : PySem.W.Frag} {H : Hp} {a : Addr} {xs : List V} (h : H a = some (.tup xs)) : IntV K H (.ref a) false := ⟨_, false, false, .base (.tup h), kit_ty (by decide +kernel), kit_ty (by decide +kernel), rfl⟩
theorem IntV.lst {K : PySem.W.Frag} {H : Hp} {a : Addr} {xs : List V} (h : H a = some (.lst xs)) : IntV K H (.ref a) false := ⟨_, false, false, .base (.lst h), kit_ty (by decide +kernel), kit_ty (by decide +kernel), rfl⟩
theorem IntV.dct {K : PySem.W.Frag} {H : Hp} {a : Addr} {xs : List (Key × V)} (h : H a = some (.dK xs)) : IntV K H (.ref a) false := ⟨_, false, false, .base (.dK h), kit_ty (by decide +kernel), kit_ty (by decide +kernel), rfl⟩
def spInt (K : PySem.W.Frag) : Sp := fun vs H Q _ => ∃ (x : V) (b : Bool), vs = [x] ∧ IntV K H x b ∧ Q (.bl b) H
/-- an integer, or known to be none -/
def isI (K : PySem.W.Frag) (H : Hp) (x : V) (r : Option Int) : Prop := (∃ i, x = .int i ∧ r = some i) ∨ (IntV K H x false ∧ r = none)
/-- is it from lo to hi -/
def btwB (r : Option Int) (lo hi : Int) : Bool := match r with
  | some i => decide (lo ≤ i) && decide (i ≤ hi)
  | none => false
def spBtw (K : PySem.W.Frag) : Sp := fun vs H Q _ => ∃ (x : V) (lo hi : Int) (r : Option Int), vs = [x, .int lo, .int hi] ∧ isI K H x r ∧ Q (.bl (btwB r lo hi)) H
/-- a list or a tuple of lo to hi items -/
def spSiz (K : PySem.W.Frag) : Sp := fun vs H Q _ => ∃ (x : V) (lo hi : Int), vs = [x, .int lo, .int hi] ∧
  ((∃ (a : Addr) (xs : List V), x = .ref a ∧ SqV K H a xs ∧ ∀ H', Same H H' → Q (.bl (decide (lo ≤ (xs.length : Nat)) && decide (((xs.length : Nat) : Int) ≤ hi))) H') ∨ (NoSq K H x ∧ ∀ H', Same H H' → Q (.bl false) H'))
/-- may it stand in a Fill -/
def Stp.fill (s : Stp) : Bool := decide (s.w = "put") || (decide (s.w = "set") && !decide (s.mid.head? = some "input"))
def spFst (K : PySem.W.Frag) : Sp := fun vs H Q _ => ∃ (p : Addr) (s : Stp), vs = [.ref p] ∧ StAt H p s ∧ s.ok = true ∧ ∀ H', Same H H' → Q (.bl s.fill) H'
section
variable {P : Program} {w : World} {K : PySem.W.Frag} {mg : Str → Option Value} {base : Heap} {f fI : Addr} {fd fdI fdT fdW fdS fdQ : FuncData}
theorem scInt : FnScope ["value"] ["value"] (defScope sInt) := ⟨rfl, rfl, rfl, by decide +kernel, rfl, by decide +kernel, by decide +kernel⟩
theorem ok_int {CX : CXT} (F : FnP K "is_integer" sInt f fd) (T : Txt K mg w) : FnOk P w K mg base CX 1 f fd ["value"] (spInt K) := by
  refine F.ok scInt (fun vs H Q E h => ?_) (fun cdv A outer s H vs Q E hr h => ?_)
  · obtain ⟨x, b, rfl, _⟩ := h
    rfl
  refine ⟨_, pss_one (ps_ret (pe_and (pe_callB call_isi (by rfl) T.g_isinstance boot_isinstance (pa_cons (pv 0) (pa_cons (pe_bltn (v := .ty "int") (by rfl) T.g_int boot_int rfl) pa_nil)))
    (pe_one (pe_not (pe_callB call_isi (by rfl) T.g_isinstance boot_isinstance (pa_cons (pv 0) (pa_cons (pe_bltn (v := .ty "bool") (by rfl) T.g_bool boot_bool rfl) pa_nil))))))), ?_⟩
  obtain ⟨x, b, rfl, ⟨t, b1, b2, ty, k1, k2, rfl⟩, q⟩ := h
  refine ⟨_, rfl, x, _, t, _, b1, rfl, .ty "int", ty, k1, b1, rfl, ?_⟩
  cases b1 with
  | false => exact iteF q
  | true => exact iteT ⟨_, rfl, x, _, t, _, b2, rfl, .ty "bool", ty, k2, b2, rfl, q⟩
theorem scBtw : FnScope ["value", "least", "most"] ["value", "least", "most"] (defScope sBtw) := ⟨rfl, rfl, rfl, by decide +kernel, rfl, by decide +kernel, by decide +kernel⟩
theorem ok_btw (F : FnP K "is_between" sBtw f fd) (T : Txt K mg w) (FI : FnInt K fdI) : FnOk P w K mg base CX0 2 f fd ["value", "least", "most"] (spBtw K) := by
  have GI : FnOk P w K mg base CX0 1 (ga K "is_integer") fdI ["value"] (spInt K) := ok_int FI T
  refine F.ok scBtw (fun vs H Q E h => ?_) (fun cdv A outer s H vs Q E hr h => ?_)
  · obtain ⟨x, lo, hi, r, rfl, _⟩ := h
    rfl
  refine ⟨_, PSs.nox (pss_one (ps_ret (pe_and (pe_call GI (hr.mono (by decide)) (by rfl) T.m_is_integer FI.kp (bInt FI) .nil pass0 (pa_cons (pv 0) pa_nil)) (pe_one (pe_chain op_le op_le (pv 1) (pv 0) (pv 2)))))), ?_⟩
  obtain ⟨x, lo, hi, r, rfl, h, q⟩ := h
  rcases h with ⟨i, rfl, rfl⟩ | ⟨h, rfl⟩
  · refine ⟨_, rfl, _, true, rfl, .int, true, rfl, iteT ?_⟩
    refine ⟨_, rfl, _, rfl, ?_⟩
    unfold btwB at q
    refine ⟨_, _, rfl, rfl, _, rfl, ?_⟩
    cases l1 : decide (lo ≤ i) with
    | false =>
      simp only [l1, Bool.false_and] at q
      exact iteF q
    | true =>
      simp only [l1, Bool.true_and] at q
      exact iteT ⟨_, rfl, _, _, rfl, rfl, q⟩
  · exact ⟨_, rfl, _, false, rfl, h, false, rfl, iteF q⟩
theorem scSiz : FnScope ["value", "least", "most"] ["value", "least", "most"] (defScope sSiz) := ⟨rfl, rfl, rfl, by decide +kernel, rfl, by decide +kernel, by decide +kernel⟩
theorem ok_siz (F : FnP K "is_sized" sSiz f fd) (T : Txt K mg w) (FQ : FnSeq K fdQ) : FnOk P w K mg base CX0 2 f fd ["value", "least", "most"] (spSiz K) := by
  have GQ : FnOk P w K mg base CX0 1 (ga K "is_sequence") fdQ ["value"] (spSeq K) := ok_seq FQ T
  refine F.ok scSiz (fun vs H Q E h => ?_) (fun cdv A outer s H vs Q E hr h => ?_)
  · obtain ⟨x, lo, hi, rfl, _⟩ := h
    rfl
  refine ⟨_, PSs.nox (pss_one (ps_ret (pe_and (pe_call GQ (hr.mono (by decide)) (by rfl) T.m_is_sequence FQ.kp (bSeq FQ) .nil pass0 (pa_cons (pv 0) pa_nil)) (pe_one (pe_chain op_le op_le (pv 1) (pe_callB call_len_seq (by rfl) T.g_len boot_len (pa_cons (pv 0) pa_nil)) (pv 2)))))), ?_⟩
  obtain ⟨x, lo, hi, rfl, h⟩ := h
  rcases h with ⟨a, xs, rfl, hv, k⟩ | ⟨no, k⟩
  · refine ⟨_, rfl, _, rfl, .inl ⟨a, xs, rfl, hv, fun H1 S1 => ⟨true, rfl, iteT ?_⟩⟩⟩
    refine ⟨_, rfl, _, rfl, a, _, rfl, hv.same S1, _, _, rfl, rfl, _, rfl, ?_⟩
    have q := k H1 S1
    cases l1 : decide (lo ≤ ((xs.length : Nat) : Int)) with
    | false =>
      rw [l1] at q
      exact iteF q
    | true =>
      rw [l1, Bool.true_and] at q
      exact iteT ⟨_, rfl, _, _, rfl, rfl, q⟩
  · exact ⟨_, rfl, _, rfl, .inr ⟨no, fun H1 S1 => ⟨false, rfl, iteF (k H1 S1)⟩⟩⟩
theorem atOne {x y : V} {l : List V} : atI (x :: y :: l) 1 = some y := by
  unfold atI ixN
  rw [if_pos (by decide), if_pos (by rw [List.length_cons, List.length_cons]; omega)]
  rfl
theorem scFst : FnScope ["value"] ["value"] (defScope sFst) := ⟨rfl, rfl, rfl, by decide +kernel, rfl, by decide +kernel, by decide +kernel⟩
theorem ok_fst (F : FnP K "is_fill_statement" sFst f fd) (T : Txt K mg w) (FT : FnIst K fdT) (FW : FnWrd K fdW) (FS : FnWds K fdS) : FnOk P w K mg base CX0 4 f fd ["value"] (spFst K) := by
  have GT : FnOk P w K mg base CX0 3 (ga K "is_statement") fdT ["value"] (spIst K) := ok_ist FT T FW FS
  refine F.ok scFst (fun vs H Q E h => ?_) (fun cdv A outer s H vs Q E hr h => ?_)
  · obtain ⟨p, s, rfl, _⟩ := h
    rfl
  refine ⟨_, PSs.nox (pss_cons (ps_if (pt_not (pt_val (pe_call GT (hr.mono (by decide)) (by rfl) T.m_is_statement FT.kp (bIst FT) .nil pass0 (pa_cons (pv 0) pa_nil)))) (pss_one (ps_ret pe_bl)) pss_nil)
    (pss_one (ps_ret (pe_or (pe_cmpR op_eq (pe_ix ix_tup (pv 0) pe_int (fun _ _ => rfl)) pe_str (nomark _)) (pe_one (pe_and (pe_cmpR op_eq (pe_ix ix_tup (pv 0) pe_int (fun _ _ => rfl)) pe_str (nomark _)) (pe_one (pe_cmpR op_ne (pe_ix ix_tup (pv 0) pe_int (fun _ _ => rfl)) pe_str (nomark _))))))))), ?_⟩
  obtain ⟨p, s, rfl, at_, ok, k⟩ := h
  refine ⟨_, rfl, _, true, rfl, at_.is ok, fun H1 S1 => ⟨true, rfl, iteF ?_⟩⟩
  have at1 : StAt H1 p s := at_.same fun b xs e => S1 _ _ e
  have q := k H1 S1
  clear k at_
  have first : ∃ xs, H1 p = some (.tup (.str s.w :: xs)) ∧ (s.w = "set" → ∃ m ys, s.mid.head? = some m ∧ xs = .str m :: ys) := by
    unfold StAt at at1
    split at at1
    · rename_i e
      exact ⟨_, by rw [at1, e], fun z => by rw [e] at z; exact absurd z (by decide)⟩
    · obtain ⟨q, h1, h2⟩ := at1
      refine ⟨_, h1, fun z => ?_⟩
      obtain ⟨_, l, _⟩ := Stp.facts ok
      cases hm : s.mid with
      | nil =>
        rw [hm, z] at l
        exact absurd l (by decide)
      | cons m ms => exact ⟨m, _, rfl, rfl⟩
  obtain ⟨xs, hp, second⟩ := first
  unfold Stp.fill at q
  refine ⟨_, rfl, _, _, _, _, rfl, rfl, SqT.of hp, at0, rfl, _, rfl, ?_⟩
  by_cases e1 : s.w = "put"
  · rw [show decide (V.str s.w = V.str "put") = true by simp [e1]]
    rw [decide_eq_true e1, Bool.true_or] at q
    exact iteT q
  rw [show decide (V.str s.w = V.str "put") = false by simp [e1]]
  rw [decide_eq_false e1, Bool.false_or] at q
  refine iteF ⟨_, rfl, _, _, _, _, rfl, rfl, SqT.of hp, at0, rfl, _, rfl, ?_⟩
  by_cases e2 : s.w = "set"
  case neg =>
    rw [show decide (V.str s.w = V.str "set") = false by simp [e2]]
    rw [decide_eq_false e2, Bool.false_and] at q
    exact iteF q
  rw [show decide (V.str s.w = V.str "set") = true by simp [e2]]
  rw [decide_eq_true e2, Bool.true_and] at q
  obtain ⟨m, ys, hm, rfl⟩ := second e2
  refine iteT ⟨_, rfl, _, _, _, _, rfl, rfl, SqT.of hp, (show atI (V.str s.w :: V.str m :: ys) 1 = some (.str m) from atOne), rfl, ?_⟩
  rw [hm] at q
  rw [show decide (V.str m = V.str "input") = decide (some m = some "input") by simp]
  exact q
end
end K09

set_option maxRecDepth 100000
set_option maxHeartbeats 4000000
namespace K09
open PySem PySem.Spec PyProof.Rows L2 He VH RZ
/-! a Fill made (of what is right) -/
abbrev sNoF : Stmt := inClass (top 4) 0
abbrev sFlI : Stmt := inClass (top 39) 0
abbrev FnNoF (K : PySem.W.Frag) (fd : FuncData) : Prop := FnM K "__init__" "NoFill.__init__" 4 0 (ma K (ga K "NoFill") "__init__") fd
abbrev kwF : List (Str × V) := [("batch", .int 1), ("save", .str "last"), ("lock", .bl false), ("only_missing", .bl false), ("falls", .bl false), ("again", .bl false)]
abbrev FnFlI (K : PySem.W.Frag) (fd : FuncData) : Prop := FunD K "__init__" "Fill.__init__" (defArgs sFlI) (defBody sFlI) (defScope sFlI) [] kwF (ma K (ga K "Fill") "__init__") fd
/-- the parts of a Fill behind its statement -/
structure Fl where
  b : Int
  z : Str
  f1 : Bool
  f2 : Bool
  f3 : Bool
  f4 : Bool
structure Fl.Ok (d : Fl) : Prop where
  b1 : 1 ≤ d.b
  b2 : d.b ≤ 100
  z : d.z ∈ (["last", "first"] : List Str)
def FlAt (K : PySem.W.Frag) (H : Hp) (a p : Addr) (d : Fl) : Prop := ∃ dx : Addr, H a = some (.ins (ga K "Fill") dx [("statement", .ref p), ("batch", .int d.b), ("save", .str d.z), ("lock", .bl d.f1), ("only_missing", .bl d.f2), ("falls", .bl d.f3), ("again", .bl d.f4)])
def spFlI (K : PySem.W.Frag) : Sp := fun vs H Q _ => ∃ (a dx p : Addr) (s : Stp) (d : Fl), vs = [.ref a, .ref p, .int d.b, .str d.z, .bl d.f1, .bl d.f2, .bl d.f3, .bl d.f4] ∧ H a = some (.ins (ga K "Fill") dx []) ∧
  StAt H p s ∧ s.ok = true ∧ s.fill = true ∧ d.Ok ∧ ∀ H', But a H H' → FlAt K H' a p d → Q .non H'
section
variable {P : Program} {w : World} {K : PySem.W.Frag} {mg : Str → Option Value} {base : Heap} {f : Addr} {fd : FuncData}
theorem scNoF : FnScope ["self", "part"] ["self", "part"] (defScope sNoF) := ⟨rfl, rfl, rfl, by decide +kernel, rfl, by decide +kernel, by decide +kernel⟩
theorem okNoF (F : FnM K "__init__" "NoFill.__init__" 4 0 f fd) : FnOk P w K mg base CX0 1 f fd ["self", "part"] (spIni K ["part"]) := by
  refine F.ok scNoF (fun vs H Q E h => ?_) (fun cdv A outer s H vs Q E hr h => ?_)
  · obtain ⟨a, C, v, rfl, _⟩ := ini1 h
    rfl
  refine ⟨_, PSs.nox (pss_one (ps_ost (pv 0) (pv 1))), ?_⟩
  obtain ⟨a, C, v, rfl, T, no, ha, k⟩ := ini1 h
  exact ⟨_, rfl, _, rfl, a, C, rfl, T, no, .inl ⟨ha, fun dx n ne => k dx n ne⟩⟩
theorem bNoF (F : FnM K "__init__" "NoFill.__init__" 4 0 f fd) : Binds K fd ["self", "part"] [] := FunD.bindsN F fun _ _ _ _ _ _ us hl => match us, hl with | [_, _], _ => rfl
abbrev nFlI : List Str := ["self", "statement", "batch", "save", "lock", "only_missing", "falls", "again", "flags", "part", "flag"]
abbrev pFlI : List Str := ["self", "statement", "batch", "save", "lock", "only_missing", "falls", "again"]
theorem scFlI : FnScope nFlI pFlI (defScope sFlI) := ⟨rfl, rfl, rfl, by decide +kernel, rfl, by decide +kernel, by decide +kernel⟩
theorem ok_flI (F : FnFlI K fd) (T : Txt K mg w) (fns : Fns K) : FnOk P w K mg base (L2.CX P w) 5 (ma K (ga K "Fill") "__init__") fd pFlI (spFlI K) := by
  obtain ⟨dW, FW⟩ := fns.f_is_word
  obtain ⟨dS, FS⟩ := fns.f_are_words
  obtain ⟨dI, FI⟩ := fns.f_is_integer
  obtain ⟨dB, FB⟩ := fns.f_is_between
  obtain ⟨dT, FT⟩ := fns.f_is_statement
  obtain ⟨dL, FL⟩ := fns.f_is_fill_statement
  obtain ⟨dX, FX⟩ := fns.f_NoFill_init
  have GW : FnOk P w K mg base CX0 1 (ga K "is_word") dW ["value", "words"] (spWrd K) := ok_wrd FW T
  have GB : FnOk P w K mg base CX0 2 (ga K "is_between") dB ["value", "least", "most"] (spBtw K) := ok_btw FB T FI
  have GL : FnOk P w K mg base CX0 4 (ga K "is_fill_statement") dL ["value"] (spFst K) := ok_fst FL T FT FW FS
  refine F.ok scFlI (fun vs H Q E h => ?_) (fun cdv A outer s H vs Q E hr h => ?_)
  · obtain ⟨_, _, _, _, _, rfl, _⟩ := h
    rfl
  have raise : ∀ {p1 p2 p3 p4 : Pos} {j : Nat} {wd : Str}, PS (cxOf (L2.CX P w) P w K mg base nFlI "Fill.__init__" (defScope sFlI) (ma K (ga K "Fill") "__init__") cdv A outer s H E) (.Raise (some (.Call (.Name "NoFill" p1) [.Constant (.str wd) j p2] [] p3)) none p4) _ := fun {p1 p2 p3 p4 j wd} =>
    ps_raise rfl (takes_of rfl rfl rfl rfl) (pmk_oex T.x_NoFill.mkx.toOexC T.x_NoFill.mkx.ini T.x_NoFill.mkx.tyI (okNoF FX) (hr.mono (by decide)) (bNoF FX) .nil pass0 (by rfl) T.m_NoFill (pa_cons pe_str pa_nil))
  refine ⟨_, pss_cons (ps_if (pt_not (pt_val (pe_call GL (hr.mono (by decide)) (by rfl) T.m_is_fill_statement FL.kp (bFst FL) .nil pass0 (pa_cons (pv 1) pa_nil)))) (pss_one raise) pss_nil)
    (pss_cons (ps_if (pt_not (pt_val (pe_call GB (hr.mono (by decide)) (by rfl) T.m_is_between FB.kp (bBtw FB) .nil pass0 (pa_cons (pv 2) (pa_cons pe_int (pa_cons pe_int pa_nil)))))) (pss_one raise) pss_nil)
    (pss_cons (ps_if (pt_not (pt_val (pe_call GW (hr.mono (by decide)) (by rfl) T.m_is_word FW.kp (bWrd FW) .nil pass0 (pa_cons (pv 3) (pa_cons (pe_glob (v := .ref (ga K "SAVES")) (by rfl) T.m_SAVES rfl) pa_nil))))) (pss_one raise) pss_nil)
    (pss_cons (ps_set (i := 8) scFlI.nd rfl (Or.inl rfl) (pe_tup (pa_cons (pe_tup (pa_cons pe_str (pa_cons (pv 4) pa_nil))) (pa_cons (pe_tup (pa_cons pe_str (pa_cons (pv 5) pa_nil))) (pa_cons (pe_tup (pa_cons pe_str (pa_cons (pv 6) pa_nil))) (pa_cons (pe_tup (pa_cons pe_str (pa_cons (pv 7) pa_nil))) pa_nil))))))
    (pss_cons (ps_for (passes_of rfl) rfl (pi_tup (pv 8)) (pg_tup rfl (pgs_cons (pg_name (i := 9) scFlI.nd rfl (Or.inl rfl)) (pgs_cons (pg_name (i := 10) scFlI.nd rfl (Or.inl rfl)) pgs_nil)))
      (pss_one (ps_if (pt_not (pt_val (pe_callB call_isi (by rfl) T.g_isinstance boot_isinstance (pa_cons (pv 10) (pa_cons (pe_bltn (v := .ty "bool") (by rfl) T.g_bool boot_bool rfl) pa_nil)))))
        (pss_one (ps_raise rfl (takes_of rfl rfl rfl rfl) (pmk_oex T.x_NoFill.mkx.toOexC T.x_NoFill.mkx.ini T.x_NoFill.mkx.tyI (okNoF FX) (hr.mono (by decide)) (bNoF FX) .nil pass0 (by rfl) T.m_NoFill (pa_cons (pv 9) pa_nil)))) pss_nil)))
    (pss_cons (ps_fld (pv 0) (pv 1) rfl) (pss_cons (ps_fld (pv 0) (pv 2) rfl) (pss_cons (ps_fld (pv 0) (pv 3) rfl) (pss_cons (ps_fld (pv 0) (pv 4) rfl) (pss_cons (ps_fld (pv 0) (pv 5) rfl) (pss_cons (ps_fld (pv 0) (pv 6) rfl) (pss_one (ps_fld (pv 0) (pv 7) rfl)))))))))))), ?_⟩
  obtain ⟨a, dx, p, s, d, rfl, ha, at_, ok, fi, od, k⟩ := h
  obtain ⟨b, z, f1, f2, f3, f4⟩ := d
  obtain ⟨b1, b2, hz⟩ := od
  simp only at b1 b2 hz
  refine ⟨_, rfl, p, s, rfl, at_, ok, fun H1 S1 => ⟨s.fill, rfl, ?_⟩⟩
  rw [fi]
  refine iteF ?_
  have ha1 := S1 _ _ ha
  refine ⟨_, rfl, .int b, 1, 100, some b, rfl, .inl ⟨b, rfl, rfl⟩, btwB (some b) 1 100, rfl, ?_⟩
  rw [show btwB (some b) 1 100 = true by simp [btwB, b1, b2]]
  refine iteF ?_
  refine ⟨_, rfl, .str z, ga K "SAVES", ["last", "first"], rfl, T.t_SAVES _, .inl ⟨z, rfl, _, rfl, ?_⟩⟩
  rw [show (["last", "first"] : List Str).contains z = true from List.elem_iff.mpr hz]
  refine iteF ?_
  refine ⟨_, rfl, (show 2 ≤ sizeLine by decide), fun t1 n1 => ⟨_, rfl, (show 2 ≤ sizeLine by decide), fun t2 n2 => ⟨_, rfl, (show 2 ≤ sizeLine by decide), fun t3 n3 => ⟨_, rfl, (show 2 ≤ sizeLine by decide), fun t4 n4 => ⟨(show 4 ≤ sizeLine by decide), fun t5 n5 => ?_⟩⟩⟩⟩⟩
  have s1 := Same.new (o := .tup [.str "lock", .bl f1]) n1
  have s2 := Same.new (o := .tup [.str "only_missing", .bl f2]) n2
  have s3 := Same.new (o := .tup [.str "falls", .bl f3]) n3
  have s4 := Same.new (o := .tup [.str "again", .bl f4]) n4
  have s5 := Same.new (o := .tup [.ref t1, .ref t2, .ref t3, .ref t4]) n5
  have S5 := S1.trans (s1.trans (s2.trans (s3.trans (s4.trans s5))))
  have each : ∀ x ∈ ([.ref t1, .ref t2, .ref t3, .ref t4] : List V), ∃ (t : Addr) (u : Str) (e : Bool), x = .ref t ∧ upd (upd (upd (upd (upd H1 t1 (.tup [.str "lock", .bl f1])) t2 (.tup [.str "only_missing", .bl f2])) t3 (.tup [.str "falls", .bl f3])) t4 (.tup [.str "again", .bl f4])) t5 (.tup [.ref t1, .ref t2, .ref t3, .ref t4]) t = some (.tup [.str u, .bl e]) := by
    intro x hx
    rcases List.mem_cons.mp hx with rfl | hx
    · exact ⟨t1, _, _, rfl, (s2.trans (s3.trans (s4.trans s5))) _ _ upd_same⟩
    rcases List.mem_cons.mp hx with rfl | hx
    · exact ⟨t2, _, _, rfl, (s3.trans (s4.trans s5)) _ _ upd_same⟩
    rcases List.mem_cons.mp hx with rfl | hx
    · exact ⟨t3, _, _, rfl, (s4.trans s5) _ _ upd_same⟩
    rcases List.mem_cons.mp hx with rfl | hx
    · exact ⟨t4, _, _, rfl, s5 _ _ upd_same⟩
    cases hx
  clear s1 s2 s3 s4 s5 S1 ha1
  have h5 : upd (upd (upd (upd (upd H1 t1 (.tup [.str "lock", .bl f1])) t2 (.tup [.str "only_missing", .bl f2])) t3 (.tup [.str "falls", .bl f3])) t4 (.tup [.str "again", .bl f4])) t5 (.tup [.ref t1, .ref t2, .ref t3, .ref t4]) t5 = some (.tup [.ref t1, .ref t2, .ref t3, .ref t4]) := upd_same
  generalize upd (upd (upd (upd (upd H1 t1 (.tup [.str "lock", .bl f1])) t2 (.tup [.str "only_missing", .bl f2])) t3 (.tup [.str "falls", .bl f3])) t4 (.tup [.str "again", .bl f4])) t5 (.tup [.ref t1, .ref t2, .ref t3, .ref t4]) = G at S5 each h5 ⊢
  refine ⟨_, rfl, t5, rfl, ⟨_, SqT.of h5⟩, ?_⟩
  refine for_tup (K := K) (xs := [.ref t1, .ref t2, .ref t3, .ref t4]) (fun i σ G' => G' = G ∧ ∃ v9 v10, σ = [some (.ref a), some (.ref p), some (.int b), some (.str z), some (.bl f1), some (.bl f2), some (.bl f3), some (.bl f4), some (.ref t5), v9, v10]) ⟨rfl, _, _, rfl⟩ (fun i σ G' _ g => ?_) (fun i x σ G' hx g => ?_) (fun σ G' g => ?_)
  · rw [g.1]
    exact SqT.of h5
  · obtain ⟨rfl, v9, v10, rfl⟩ := g
    obtain ⟨t, u, e, rfl, ht⟩ := each x (List.mem_of_getElem? hx)
    refine ⟨t, _, rfl, SqT.of ht, rfl, _, _, rfl, _, _, rfl, rfl, ?_⟩
    exact ⟨_, rfl, _, _, _, _, true, rfl, .ty "bool", .base (.bl e), kit_ty (by decide +kernel), true, rfl, iteF ⟨rfl, _, _, rfl⟩⟩
  · obtain ⟨rfl, v9, v10, rfl⟩ := g
    have ha5 := S5 _ _ ha
    refine ⟨_, rfl, _, rfl, a, _, dx, _, rfl, ha5, T.c_Fill, T.n_Fill_statement, (show 0 < 1000 by decide), ?_⟩
    refine ⟨_, rfl, _, rfl, a, _, dx, _, rfl, upd_same, T.c_Fill, T.n_Fill_batch, (show 1 < 1000 by decide), ?_⟩
    refine ⟨_, rfl, _, rfl, a, _, dx, _, rfl, upd_same, T.c_Fill, T.n_Fill_save, (show 2 < 1000 by decide), ?_⟩
    refine ⟨_, rfl, _, rfl, a, _, dx, _, rfl, upd_same, T.c_Fill, T.n_Fill_lock, (show 3 < 1000 by decide), ?_⟩
    refine ⟨_, rfl, _, rfl, a, _, dx, _, rfl, upd_same, T.c_Fill, T.n_Fill_only_missing, (show 4 < 1000 by decide), ?_⟩
    refine ⟨_, rfl, _, rfl, a, _, dx, _, rfl, upd_same, T.c_Fill, T.n_Fill_falls, (show 5 < 1000 by decide), ?_⟩
    refine ⟨_, rfl, _, rfl, a, _, dx, _, rfl, upd_same, T.c_Fill, T.n_Fill_again, (show 6 < 1000 by decide), ?_⟩
    exact k _ (((((((But.of S5).trans But.upd).trans But.upd).trans But.upd).trans But.upd).trans But.upd).trans But.upd |>.trans But.upd) ⟨dx, upd_same⟩
end
end K09

set_option maxRecDepth 100000
set_option maxHeartbeats 4000000
namespace L2
open PySem PySem.Spec PyProof.Rows
theorem for_enumX {K : PySem.W.Frag} {a : Addr} {xs : List V} {g : TG} {tb : TS} {D : Ends} {σ : St} {H : Hp} (Pv : Nat → St → Hp → Prop) (h0 : Pv 0 σ H) (hl : ∀ i σ H, i ≤ xs.length → Pv i σ H → SqL K H a xs)
    (hs : ∀ i x σ H T, xs[i]? = some x → Pv i σ H → H T = none → g (.ref T) σ (upd H T (.tup [.int (i : Nat), x])) fun σ2 H2 => tb { D with nx := Pv (i + 1), ct := Pv (i + 1), bk := D.nx } σ2 H2) (hd : ∀ σ H, Pv xs.length σ H → D.nx σ H) :
    ∃ W : Nat → Nat → St → Hp → Prop, (∃ m, W 0 m σ H) ∧ ∀ i m σ H, W i m σ H →
      ((Ite K a).stop i H ∧ D.nx σ H) ∨ ((Ite K a).go i H ∧ ∃ N : St → Hp → Prop, (∀ σ' H', N σ' H' → ∃ m', m' < m ∧ W (i + 1) m' σ' H') ∧ ∀ x H', (Ite K a).yld i H x H' → g x σ H' fun σ2 H2 => tb { D with nx := N, ct := N, bk := D.nx } σ2 H2) := by
  refine ⟨fun i m σ H => m = xs.length - i ∧ i ≤ xs.length ∧ Pv i σ H, ⟨xs.length, by simp, Nat.zero_le _, h0⟩, ?_⟩
  rintro i m σ H ⟨rfl, le, p⟩
  have q := hl i σ H le p
  by_cases lt : i < xs.length
  · refine .inr ⟨⟨xs, xs[i], q, by simp [lt]⟩, Pv (i + 1), fun σ' H' p' => ⟨xs.length - (i + 1), by omega, rfl, lt, p'⟩, ?_⟩
    rintro y H' ⟨T, x, rfl, nT, rfl, sure⟩
    exact hs i x σ H T (sure xs q) p nT
  · have e : i = xs.length := by omega
    subst e
    exact .inl ⟨⟨xs, q, Nat.le_refl _⟩, hd σ H p⟩
end L2

set_option maxRecDepth 100000
set_option maxHeartbeats 4000000
/-! for i, x in enumerate(a tuple), and in enumerate(a list or a tuple). -/
namespace PySem
open Sem (wp)
open AutoSeq1 (wpAny_loadPart')
theorem meets_enumerate1 {v : Value} {o : Obj} {H : Heap → Prop} (B : Begins v o H) :
    Meets (Builtin.«enumerate.__new__» ⟨[.type "enumerate", v], []⟩) (fun _ R s => H s.heap ∧
      R (.ok (.ret (.ref (s.heap.push o).objs.size))) { s with heap := (s.heap.push o).push { cls := .type "enumerate", data := .fields #[.none, .bool false, .ref s.heap.objs.size, rawInt 0, .none, .none] } }) :=
  .of_wp fun prog w A R s h => by
    obtain ⟨hp, g, d, tk, os⟩ := s
    obtain ⟨h1, h⟩ := h
    have hsub := sub_enumerate
    have it : ∀ {A' : Around} {E : Value → Shared → Prop} {Q : Value → Shared → Prop}, Q (.ref hp.objs.size) ⟨hp.push o, g, d, tk, os⟩ → wpAny (model prog w) A' (pyIter v) Q E ⟨hp, g, d, tk, os⟩ :=
      fun q => B.iter prog w _ _ ⟨hp, g, d, tk, os⟩ _ h1 q
    wp_walk using it
    refine wpAny_stack_any fun st => wpAny_pure ?_
    split
    · rename_i c _ _ _ _ _
      cases (c == Value.type "enumerate") <;> (wp_walk using it; exact ⟨_, rfl, h⟩)
    · wp_walk using it
      exact ⟨_, rfl, h⟩
section
variable {prog : Program} {w : World} {A : Around} {E : Value → Shared → Prop} {s : Shared}
theorem enum_begins1 {v : Value} {o : Obj} {H : Heap → Prop} {Q : Value → Shared → Prop} (B : Begins v o H) (h1 : H s.heap)
    (h : ∀ h', IsEnum h' (s.heap.objs.size + 1) s.heap.objs.size 0 .none → h'.get? s.heap.objs.size = some o → h'.objs.size = s.heap.objs.size + 2 →
      (∀ b o, s.heap.get? b = some o → h'.get? b = some o) → Q (.ref (s.heap.objs.size + 1)) { s with heap := h' }) :
    wpAny (model prog w) A (call (.type "enumerate") [v]) Q E s := by
  refine callType_new F.called_enumerate (by decide) (F.typeCall_enumerate_1 _) (F.newCall_enumerate_1 _) (fun obj => F.args_object_init_2 obj _) F.entry_enumerate_new (meets_enumerate1 B) ⟨h1, ?_⟩
  have hz : (s.heap.push o).objs.size = s.heap.objs.size + 1 := Heap.size_push ..
  show _ ∧ _
  rw [hz]
  have he : IsEnum ((s.heap.push o).push { cls := .type "enumerate", data := .fields #[.none, .bool false, .ref s.heap.objs.size, rawInt 0, .none, .none] }) (s.heap.objs.size + 1) s.heap.objs.size 0 .none := by
    have := Heap.get?_push_size (s.heap.push o) (o := { cls := .type "enumerate", data := .fields #[.none, .bool false, .ref s.heap.objs.size, rawInt 0, .none, .none] }) rfl
    rw [hz] at this
    exact this
  exact ⟨⟨_, he, rfl⟩, h _ he (Heap.get?_push_of_some _ (Heap.get?_push_size _ B.free)) (by rw [Heap.size_push, hz]) fun b o x => Heap.get?_push_of_some _ (Heap.get?_push_of_some _ x)⟩
end
end PySem
namespace L2
open PySem PySem.Spec PyProof.Rows
def IteT (K : PySem.W.Frag) (a : Addr) : It :=
  ⟨fun i H => ∃ (xs : List V) (x : V), SqT K H a xs ∧ xs[i]? = some x, fun i H v H' => ∃ T x, v = .ref T ∧ H T = none ∧ H' = upd H T (.tup [.int (i : Nat), x]) ∧ ∀ xs, SqT K H a xs → xs[i]? = some x, fun i H => ∃ xs : List V, SqT K H a xs ∧ xs.length ≤ i⟩
theorem tup_apart {h : Heap} {a it : Addr} {i : Nat} {items : Array Value} (x : h.IsTuple a items) (y : h.IsTupleIter it a i) : a ≠ it := fun e => by
  subst e
  obtain ⟨o, h1, c1, _⟩ := x
  obtain ⟨u, h2, c2, _⟩ := y
  rw [h1] at h2
  cases h2
  rw [c1] at c2
  exact absurd c2 (by decide)
theorem turn_enumT {P : Program} {w : World} {K : PySem.W.Frag} {elts : List Expr} {kk : Nat} {tpos : Pos} (a e it : Addr) :
    Turn P w K (.Tuple elts kk tpos) (IteT K a) [e, it] e (fun i h => (∃ old, IsEnum h e it ((i : Nat) : Int) old) ∧ h.IsTupleIter it a i ∧ e ≠ it ∧ e ≠ a) where
  mem := by simp
  obj := fun i h st b hb => by
    obtain ⟨⟨old, he⟩, ⟨o, ho, hc, hd⟩, _⟩ := st
    rcases (by simpa using hb : b = e ∨ b = it) with z | z
    · rw [z]; exact ⟨_, he, fun v q => nomatch q⟩
    · rw [z]; exact ⟨o, ho, fun v q => by rw [hd] at q; cases q⟩
  keep := fun i h h' st k => let ⟨⟨old, he⟩, hi, hne⟩ := st; ⟨⟨old, k e (by simp) _ he⟩, hi.at fun o q => k it (by simp) o q, hne⟩
  item := by
    intro X hP hw hK hc i pins s σ H E I hf st hg
    subst hP hw hK
    obtain ⟨⟨old, he⟩, hit, hne, hna⟩ := st
    obtain ⟨xs, x, hq, hx⟩ := hg
    obtain ⟨its, rv, p, hz⟩ := I.tuple hq
    obtain ⟨u, hu, ru⟩ := rv.get hx
    have li : i < its.toArray.size := by
      have := (List.getElem?_eq_some_iff.mp hu).1
      simpa using this
    have tp : s.heap.IsTuple a its.toArray := p
    have hel : e < s.heap.objs.size := Heap.lt_size he
    have hil : it < s.heap.objs.size := by obtain ⟨_, q, _⟩ := hit; exact Heap.lt_size q
    have D : Draws X.prog X.w X.A.in1 it [it, a] its.toArray.size (fun i v => its.toArray[i]? = some v) (fun i h => h.IsTupleIter it a i ∧ h.IsTuple a its.toArray) := Draws.tuple (A := X.A.in1) (show X.A.in1.handled = none from I.ok.hd hc) it a (tup_apart tp hit) its.toArray
    refine wpAny_pyNext_enum_itemD D he ⟨hit, tp⟩ li hne (by simp [hne, hna]) fun x2 h' tk hx2 ho hs hT hsz hk => ?_
    obtain rfl : u = x2 := by
      have q : its[i]? = some x2 := by simpa using hx2
      rw [hu] at q
      exact Option.some.inj q
    obtain ⟨hit', tp'⟩ := hs
    refine ⟨_, rfl, wpAny_letOwnedTupleGo_enum (s := { s with heap := h', toks := tk + 1 }) ho fun h'' he' sb => ?_⟩
    have hT2 : h''.get? s.heap.objs.size = some { cls := .type "tuple", data := .seq #[.int i tk, u] } := (sb.2 _ (Nat.ne_of_gt hel)).trans hT
    have new : ObjOk X.prog X.w (upd H s.heap.objs.size (.tup [.int (i : Nat), x])) h'' s.heap.objs.size (.tup [.int (i : Nat), x]) :=
      ⟨by show 2 ≤ sizeLine; decide, [.int i tk, u], .cons ⟨_, rfl⟩ (.cons ru .nil), ⟨_, hT2, rfl, _, rfl⟩⟩
    have I1 : Inv X pins σ (upd H s.heap.objs.size (.tup [.int (i : Nat), x])) { s with heap := h'', toks := tk + 1 } :=
      I.turnedNew (ch := [e, it]) (fun b ob hb q => (sb.2 b (fun z => hb (by simp [z]))).trans (hk b ob (fun z => hb (by simp [z])) (fun z => hb (by simp [z])) q)) hf (Nat.le_refl _) new
    refine ⟨.ref s.heap.objs.size, _, I1, rfl, ⟨_, x, rfl, I.hok.fresh (Nat.le_refl _), rfl, fun ys hy => by rw [I.tuple_inj hy hq]; exact hx⟩, ⟨⟨u, ?_⟩, hit'.at fun o q => (sb.2 it (Ne.symm hne)).trans q, hne, hna⟩, fun b hb => ?_⟩
    · rw [show ((i + 1 : Nat) : Int) = (i : Int) + 1 by omega]
      exact he'
    · have hb' : b < s.heap.objs.size := by
        rcases (by simpa using hb : b = e ∨ b = it) with z | z
        · rw [z]; exact hel
        · rw [z]; exact hil
      rw [upd_ne (Nat.ne_of_lt hb')]
      exact (hf b hb).1
  done := by
    intro X hP hw hK hc i pins s σ H E I hf st hg
    subst hP hw hK
    obtain ⟨⟨old, he⟩, hit, hne, hna⟩ := st
    obtain ⟨xs, hq, hx⟩ := hg
    obtain ⟨its, rv, p, hz⟩ := I.tuple hq
    have tp : s.heap.IsTuple a its.toArray := p
    obtain ⟨f0, f1, f2, f3, f4, f5⟩ := hf it (by simp)
    have hl := rv.length
    have D : Draws X.prog X.w X.A.in1 it [it, a] i (fun _ v => False) (fun j h => j = i ∧ h.IsTupleIter it a i ∧ h.IsTuple a its.toArray) :=
      { live := fun _ _ st => let ⟨o, ho, _⟩ := st.2.1; ⟨o, ho⟩
        frame := fun _ _ _ st hk => ⟨st.1, st.2.1.at fun o e => hk it (by simp) o e, st.2.2.at fun o e => hk a (by simp) o e⟩
        item := fun j s Q E hj st hQ => absurd st.1 (by omega)
        done := fun s Q E st hE => wpAny_nextOf_tuple_end (A := X.A.in1) (show X.A.in1.handled = none from I.ok.hd hc) st.2.1 st.2.2 (by simp; omega) hE }
    exact wpAny_pyNext_enum_endD D he ⟨rfl, hit, tp⟩ fun h' eb => ⟨rfl, I.turned (t' := s.toks) (fun b o hb q => eb b o hb q) f0 f1 f3 f4 f5⟩
  self := fun A i s Q E st h => let ⟨⟨_, he⟩, _⟩ := st; wpAny_pyIter_enum he h
/-- a list (true) or a tuple -/
def SqB (K : PySem.W.Frag) (b : Bool) (H : Hp) (a : Addr) (xs : List V) : Prop := match b with
  | true => SqL K H a xs
  | false => SqT K H a xs
theorem SqV.sqb {K : PySem.W.Frag} {H : Hp} {a : Addr} {xs : List V} (h : SqV K H a xs) : ∃ b, SqB K b H a xs := h.elim (fun h => ⟨true, h⟩) fun h => ⟨false, h⟩
theorem SqB.sqv {K : PySem.W.Frag} {H : Hp} {a : Addr} {xs : List V} : ∀ {b : Bool}, SqB K b H a xs → SqV K H a xs
  | true, h => .inl h
  | false, h => .inr h
theorem SqB.same {K : PySem.W.Frag} {H H' : Hp} {a : Addr} {xs : List V} (s : Same H H') : ∀ {b : Bool}, SqB K b H a xs → SqB K b H' a xs
  | true, h => SqL.same h s
  | false, h => SqT.same h s
def IteB (K : PySem.W.Frag) (b : Bool) (a : Addr) : It := match b with
  | true => Ite K a
  | false => IteT K a
def iEnumV (K : PySem.W.Frag) (ta : TA) : TI := fun σ H R => ta σ H fun vs H1 => ∃ a xs b, vs = [.ref a] ∧ SqB K b H1 a xs ∧ R (IteB K b a) H1
theorem pi_enumV {X : Cx} {e : Expr} {ta : TA} {p pos tpos : Pos} {elts : List Expr} {kk : Nat} (hg : Gl X "enumerate") (hm : X.mg "enumerate" = none) (ha : PA X [e] ta) (hs : starEach [e] X.env = [(false, eval e X.env)] := by rfl) :
    PI X (.Tuple elts kk tpos) (.Call (.Name "enumerate" p) [e] [] pos) (iEnumV X.K ta) := by
  refine ⟨fun pins s σ H R I h => ?_⟩
  refine Call_ (ld_blt I hg hm boot_enumerate (PyProof.Rows.callWith_type1 (thn (ha.run pos pins s σ H _ I h) fun us s1 ⟨vs, H1, I1, r1, q1⟩ => ?_) hs rfl))
  obtain ⟨a, xs, b, ex, hq, q⟩ := q1
  subst ex
  cases r1 with
  | cons r rr =>
    cases rr
    cases r
    have fp : ∀ b ∈ [s1.heap.objs.size + 1, s1.heap.objs.size], FpOk X pins H1 b := fun b hb => by
      have hle : s1.heap.objs.size ≤ b := by
        rcases (by simpa using hb : b = s1.heap.objs.size + 1 ∨ b = s1.heap.objs.size) with z | z
        · rw [z]; exact Nat.le_add_right _ _
        · rw [z]; exact Nat.le_refl _
      exact I1.fpOk hle (I1.hok.fresh hle)
    cases b with
    | true =>
      obtain ⟨its, rv, p', hz⟩ := I1.list hq
      refine call_enumerate_list p'.isList fun h' he hit hsz hk => wpAny_pyIter_enum he ?_
      exact ⟨s1.heap.objs.size + 1, _, _, _, H1, rfl, I1.kept (t' := s1.toks) hk, turn_enum a (s1.heap.objs.size + 1) s1.heap.objs.size, ⟨⟨.none, he⟩, hit, Nat.succ_ne_self _⟩, fp, q⟩
    | false =>
      obtain ⟨its, rv, p', hz⟩ := I1.tuple hq
      have tp : s1.heap.IsTuple a its.toArray := p'
      have hal : a < s1.heap.objs.size := by obtain ⟨_, q, _⟩ := tp; exact Heap.lt_size q
      refine enum_begins1 (begins_tuple a its.toArray) tp fun h' he hit hsz hk => wpAny_pyIter_enum he ?_
      exact ⟨s1.heap.objs.size + 1, _, _, _, H1, rfl, I1.kept (t' := s1.toks) hk, turn_enumT a (s1.heap.objs.size + 1) s1.heap.objs.size, ⟨⟨.none, he⟩, ⟨_, hit, rfl, rfl⟩, Nat.succ_ne_self _, Nat.ne_of_gt (Nat.lt_succ_of_lt hal)⟩, fp, q⟩
theorem for_enumV {K : PySem.W.Frag} {a : Addr} {xs : List V} {g : TG} {tb : TS} {D : Ends} {σ : St} {H : Hp} {b : Bool} (Pv : Nat → St → Hp → Prop) (h0 : Pv 0 σ H) (hl : ∀ i σ H, i ≤ xs.length → Pv i σ H → SqB K b H a xs)
    (hs : ∀ i x σ H T, xs[i]? = some x → Pv i σ H → H T = none → g (.ref T) σ (upd H T (.tup [.int (i : Nat), x])) fun σ2 H2 => tb { D with nx := Pv (i + 1), ct := Pv (i + 1), bk := D.nx } σ2 H2) (hd : ∀ σ H, Pv xs.length σ H → D.nx σ H) :
    ∃ W : Nat → Nat → St → Hp → Prop, (∃ m, W 0 m σ H) ∧ ∀ i m σ H, W i m σ H →
      ((IteB K b a).stop i H ∧ D.nx σ H) ∨ ((IteB K b a).go i H ∧ ∃ N : St → Hp → Prop, (∀ σ' H', N σ' H' → ∃ m', m' < m ∧ W (i + 1) m' σ' H') ∧ ∀ x H', (IteB K b a).yld i H x H' → g x σ H' fun σ2 H2 => tb { D with nx := N, ct := N, bk := D.nx } σ2 H2) := by
  cases b with
  | true => exact for_enumX Pv h0 hl hs hd
  | false =>
    refine ⟨fun i m σ H => m = xs.length - i ∧ i ≤ xs.length ∧ Pv i σ H, ⟨xs.length, by simp, Nat.zero_le _, h0⟩, ?_⟩
    rintro i m σ H ⟨rfl, le, p⟩
    have q : SqT K H a xs := hl i σ H le p
    by_cases lt : i < xs.length
    · refine .inr ⟨⟨xs, xs[i], q, by simp [lt]⟩, Pv (i + 1), fun σ' H' p' => ⟨xs.length - (i + 1), by omega, rfl, lt, p'⟩, ?_⟩
      rintro y H' ⟨T, x, rfl, nT, rfl, sure⟩
      exact hs i x σ H T (sure xs q) p nT
    · have e : i = xs.length := by omega
      subst e
      exact .inl ⟨⟨xs, q, Nat.le_refl _⟩, hd σ H p⟩
end L2

set_option maxRecDepth 100000
set_option maxHeartbeats 4000000
namespace K09
open PySem PySem.Spec PyProof.Rows L2 He VH RZ
/-! which Writer is wrong -/
abbrev sWw : Stmt := top 41
abbrev FnWw (K : PySem.W.Frag) (fd : FuncData) : Prop := FnP K "wrong_writer" sWw (ga K "wrong_writer") fd
theorem bWw {K : PySem.W.Frag} {fd : FuncData} (F : FnWw K fd) : Binds K fd ["writers"] [] := FunD.bindsN F fun _ _ _ _ _ _ us hl => match us, hl with | [_], _ => rfl
theorem WrAt.ty {K : PySem.W.Frag} {mg : Str → Option Value} {w : World} (T : Txt K mg w) {H : Hp} {a : Addr} {z : Str} {xs : List V} {b : Bool} (h : WrAt K H a z xs b) : TyX K H (.ref a) (.ref (ga K "Writer")) := by
  obtain ⟨dx, _, h, _⟩ := h
  exact .base (.ins h T.c_Writer T.o_Writer.cls T.dc1 T.dc2 T.o_Writer.mro)
theorem WrAt.same {K : PySem.W.Frag} {H H' : Hp} {a : Addr} {z : Str} {xs : List V} {b : Bool} (h : WrAt K H a z xs b) (s : Same H H') : WrAt K H' a z xs b := by
  obtain ⟨dx, t, h1, h2⟩ := h
  exact ⟨dx, t, s _ _ h1, s _ _ h2⟩
/-- no instance of C -/
def NoC (K : PySem.W.Frag) (C : Str) (H : Hp) (x : V) : Prop := ∀ H', Same H H' → ∃ t, TyX K H' x t ∧ PySem.W.kitOne K t (.ref (ga K C)) = some false
theorem NoC.same {K : PySem.W.Frag} {C : Str} {H H' : Hp} {x : V} (h : NoC K C H x) (s : Same H H') : NoC K C H' x := fun H2 s2 => h H2 (s.trans s2)
/-- a Writer of this name, or none -/
def IsWr (K : PySem.W.Frag) (H : Hp) (x : V) : Option Str → Prop
  | some z => ∃ a xs b, x = .ref a ∧ WrAt K H a z xs b
  | none => NoC K "Writer" H x
theorem IsWr.same {K : PySem.W.Frag} {H H' : Hp} {x : V} (s : Same H H') : ∀ {r : Option Str}, IsWr K H x r → IsWr K H' x r
  | some _, ⟨a, xs, b, e, h⟩ => ⟨a, xs, b, e, h.same s⟩
  | none, h => NoC.same h s
/-- each of a list -/
def Each {α : Type} (P : Hp → V → α → Prop) (H : Hp) (xs : List V) (zs : List α) : Prop := xs.length = zs.length ∧ ∀ (i : Nat) (x : V), xs[i]? = some x → ∃ r, zs[i]? = some r ∧ P H x r
theorem Each.same {α : Type} {P : Hp → V → α → Prop} {H H' : Hp} {xs : List V} {zs : List α} (h : Each P H xs zs) (k : ∀ x r, P H x r → P H' x r) : Each P H' xs zs := ⟨h.1, fun i x e => by
  obtain ⟨r, er, p⟩ := h.2 i x e
  exact ⟨r, er, k _ _ p⟩⟩
/-- right at k: a name, not told before -/
def okN (zs : List (Option Str)) (k : Nat) : Bool := match zs[k]? with
  | some (some z) => !(zs.take k).contains (some z)
  | _ => false
def badN (zs : List (Option Str)) : Option Nat := (List.range zs.length).find? fun k => !okN zs k
def numV : Option Nat → V
  | some k => .int k
  | none => .non
theorem badN_some {zs : List (Option Str)} {i : Nat} (l : i < zs.length) (f : okN zs i = false) (ok : ∀ m, m < i → okN zs m = true) : badN zs = some i := by
  unfold badN
  rw [List.find?_range_eq_some]
  refine ⟨by rw [f]; rfl, List.mem_range.mpr l, fun m hm => ?_⟩
  rw [ok m hm]
  rfl
theorem badN_none {zs : List (Option Str)} (ok : ∀ m, m < zs.length → okN zs m = true) : badN zs = none := by
  unfold badN
  rw [List.find?_eq_none]
  intro m hm
  rw [ok m (List.mem_range.mp hm)]
  simp
theorem has_fm {zs : List (Option Str)} {z : Str} : (zs.filterMap id).contains z = zs.contains (some z) := by
  rw [Bool.eq_iff_iff, List.contains_iff_mem, List.contains_iff_mem, List.mem_filterMap]
  constructor
  · rintro ⟨a, h, e⟩
    cases e
    exact h
  · exact fun h => ⟨_, h, rfl⟩
def spWw (K : PySem.W.Frag) : Sp := fun vs H Q _ => ∃ (a : Addr) (xs : List V) (zs : List (Option Str)), vs = [.ref a] ∧ SqV K H a xs ∧ Each (IsWr K) H xs zs ∧ xs.length ≤ 1000 ∧ ∀ H', Same H H' → Q (numV (badN zs)) H'
section
variable {P : Program} {w : World} {K : PySem.W.Frag} {mg : Str → Option Value} {base : Heap} {f : Addr} {fd : FuncData}
abbrev nWw : List Str := ["writers", "names", "at", "writer"]
theorem scWw : FnScope nWw ["writers"] (defScope sWw) := ⟨rfl, rfl, rfl, by decide +kernel, rfl, by decide +kernel, by decide +kernel⟩
theorem ok_ww (F : FnP K "wrong_writer" sWw f fd) (T : Txt K mg w) : FnOk P w K mg base CX0 1 f fd ["writers"] (spWw K) := by
  refine F.ok scWw (fun vs H Q E h => ?_) (fun cdv A outer s H vs Q E hr h => ?_)
  · obtain ⟨_, _, _, rfl, _⟩ := h
    rfl
  refine ⟨_, PSs.nox (pss_cons (ps_set (i := 1) scWw.nd rfl (Or.inl rfl) (pe_lst pa_nil))
    (pss_cons (ps_for PassesOwn.never rfl (pi_enumV (by rfl) T.g_enumerate (pa_cons (pv 0) pa_nil)) (pg_tup rfl (pgs_cons (pg_name (i := 2) scWw.nd rfl (Or.inl rfl)) (pgs_cons (pg_name (i := 3) scWw.nd rfl (Or.inl rfl)) pgs_nil)))
      (pss_cons (ps_if (PW.pt (pw_or (pt_not (pt_val (pe_callB call_isi (by rfl) T.g_isinstance boot_isinstance (pa_cons (pv 3) (pa_cons (pe_glob (v := .ref (ga K "Writer")) (by rfl) T.m_Writer rfl) pa_nil)))))
          (pw_or1 (pt_cmpR op_in_seq (pe_fld (pv 3) (by rfl)) (pv 1) (by rfl))))) (pss_one (ps_ret (pv 2))) pss_nil)
      (pss_one (ps_expr (pe_bm PySem.F.plainAttrs_list PySem.F.slot_list_append PySem.F.type_list_append mt_append (pv 1) (pa_cons (pe_fld (pv 3) (by rfl)) pa_nil))))))
    (pss_one (ps_ret pe_non)))), ?_⟩
  obtain ⟨a, xs, zs, rfl, hv, he, lx, k⟩ := h
  have big : 1000 < sizeLine := by decide
  obtain ⟨b, hb⟩ := hv.sqb
  have ll := he.1
  refine ⟨(show 0 ≤ sizeLine by decide), fun l nl => ?_⟩
  have S0 := Same.new (o := .lst []) nl
  refine ⟨_, rfl, a, xs, b, rfl, SqB.same S0 hb, ?_⟩
  refine for_enumV (K := K) (xs := xs) (fun i σ G => ∃ v2 v3 : Option V, σ = [some (.ref a), some (.ref l), v2, v3] ∧ Same H G ∧ G l = some (.lst (((zs.take i).filterMap id).map V.str)) ∧ ∀ m, m < i → okN zs m = true)
    ⟨_, _, rfl, S0, upd_same, fun m hm => absurd hm (Nat.not_lt_zero m)⟩ (fun i σ G _ g => ?_) (fun i x σ G Tt hx g nT => ?_) (fun σ G g => ?_)
  · obtain ⟨_, _, _, sG, _⟩ := g
    exact SqB.same sG hb
  · obtain ⟨v2, v3, rfl, sG, hl, ok⟩ := g
    have li := (List.getElem?_eq_some_iff.mp hx).1
    obtain ⟨r, er, hr⟩ := he.2 i x hx
    have sT := Same.new (o := .tup [.int (i : Nat), x]) nT
    have S1 := sG.trans sT
    have hl1 := sT _ _ hl
    have hT : upd G Tt (.tup [.int (i : Nat), x]) Tt = some (.tup [.int (i : Nat), x]) := upd_same
    generalize upd G Tt (.tup [.int (i : Nat), x]) = G1 at S1 hT hl1 ⊢
    clear sT hl nT
    refine ⟨Tt, _, rfl, SqT.of hT, rfl, _, _, rfl, _, _, rfl, rfl, ?_⟩
    have hr1 := hr.same S1
    have stop : okN zs i = false → Q (.int i) G1 := fun e => by
      have := k G1 S1
      rw [badN_some (by omega) e ok] at this
      exact this
    cases r with
    | none =>
      obtain ⟨t, ty, kk⟩ := hr1 G1 (Same.refl _)
      exact ⟨_, rfl, _, _, _, _, false, rfl, .own (ga K "Writer"), ty, kk, false, rfl, iteT ⟨_, rfl, stop (by unfold okN; rw [er])⟩⟩
    | some z =>
      obtain ⟨wa, ys, wb, rfl, hw⟩ := hr1
      have ty := WrAt.ty T hw
      obtain ⟨dx, t1, hwa, _⟩ := id hw
      refine ⟨_, rfl, _, _, _, _, true, rfl, .own (ga K "Writer"), ty, T.o_Writer.kk, true, rfl, iteF ?_⟩
      refine ⟨_, rfl, wa, _, dx, _, _, rfl, hwa, T.c_Writer, T.n_Writer_name, rfl, _, rfl, l, _, rfl, .inl (SqL.of hl1), rfl, flat_strs, ?_⟩
      rw [inV_strs, has_fm]
      have eo : okN zs i = !(zs.take i).contains (some z) := by unfold okN; rw [er]
      cases c : (zs.take i).contains (some z) with
      | true => exact ⟨_, rfl, iteT ⟨_, rfl, stop (by rw [eo, c]; rfl)⟩⟩
      | false =>
        refine ⟨_, rfl, iteF ⟨_, rfl, .inl ⟨rfl, _, SqL.of hl1⟩, _, rfl, wa, _, dx, _, _, rfl, hwa, T.c_Writer, T.n_Writer_name, rfl, l, _, _, rfl, rfl, hl1, ?_, _, _, rfl, same_put S1 nl, ?_, fun m hm => ?_⟩⟩
        · have := List.length_filterMap_le id (zs.take i)
          rw [List.length_take] at this
          rw [List.length_map]
          omega
        · rw [upd_same, List.take_succ, er]
          simp
        · by_cases q : m = i
          · rw [q, eo, c]; rfl
          · exact ok m (by omega)
  · obtain ⟨v2, v3, rfl, sG, hl, ok⟩ := g
    have := k G sG
    rw [badN_none (fun m hm => ok m (by omega))] at this
    exact this
end
end K09

set_option maxRecDepth 100000
set_option maxHeartbeats 4000000
/-! x in y, x not in y: trees, y a list or a tuple. -/
namespace L2
open PySem PySem.Spec PyProof.Rows SeqAt
section
variable {X : Cx}
def rInV (K : PySem.W.Frag) (neg : Bool) : R2 := fun x y H Q => ∃ (u : Tr) (ts : List Tr) (b : Bool) (p : Addr) (xs : List V), At K H x u ∧ y = .ref p ∧ SqV K H p xs ∧ Ats K H xs ts ∧ Tr.anyEq ts u = some b ∧ Tr.deps ts ≤ 60 ∧ Q (.bl (if neg then !b else b)) H
theorem op_inV (hu : X.A.units + 65 < cLine) : OpR X (compareOp .In) (rInV X.K false) := by
  intro pins s σ H x y v u Q I rx ry h
  obtain ⟨t, ts, b, a, xs, hx, rfl, hv, hs, e, d, q⟩ := h
  cases (show u = Value.ref a from ry)
  rcases hv with hl | hl
  · obtain ⟨vs, r, p, _⟩ := I.list hl
    obtain ⟨f, hf, ef, _⟩ := in_T I hx rx (A := X.A.in1) e hs r (by show X.A.units + 1 + _ < cLine; omega)
    refine SeqAt.in_listAt f p.isList (fun y hy => hf y (by simpa using hy)) ?_
    rw [show vs.toArray.any f = b from by rw [← ef]; simp]
    exact ⟨.bl b, H, I, rfl, q⟩
  · obtain ⟨vs, r, p, _⟩ := I.tuple hl
    obtain ⟨f, hf, ef, _⟩ := in_T I hx rx (A := X.A.in1) e hs r (by show X.A.units + 1 + _ < cLine; omega)
    refine SeqAt.in_tupleAt f p (fun y hy => hf y (by simpa using hy)) ?_
    rw [show vs.toArray.any f = b from by rw [← ef]; simp]
    exact ⟨.bl b, H, I, rfl, q⟩
theorem op_notInV (hu : X.A.units + 65 < cLine) : OpR X (compareOp .NotIn) (rInV X.K true) := by
  intro pins s σ H x y v u Q I rx ry h
  obtain ⟨t, ts, b, a, xs, hx, rfl, hv, hs, e, d, q⟩ := h
  cases (show u = Value.ref a from ry)
  rcases hv with hl | hl
  · obtain ⟨vs, r, p, _⟩ := I.list hl
    obtain ⟨f, hf, ef, _⟩ := in_T I hx rx (A := X.A.in1) e hs r (by show X.A.units + 1 + _ < cLine; omega)
    refine SeqAt.notIn_listAt f p.isList (fun y hy => hf y (by simpa using hy)) ?_
    rw [show vs.toArray.any f = b from by rw [← ef]; simp]
    exact ⟨.bl (!b), H, I, rfl, q⟩
  · obtain ⟨vs, r, p, _⟩ := I.tuple hl
    obtain ⟨f, hf, ef, _⟩ := in_T I hx rx (A := X.A.in1) e hs r (by show X.A.units + 1 + _ < cLine; omega)
    refine SeqAt.notIn_tupleAt f p (fun y hy => hf y (by simpa using hy)) ?_
    rw [show vs.toArray.any f = b from by rw [← ef]; simp]
    exact ⟨.bl (!b), H, I, rfl, q⟩
end
end L2

set_option maxRecDepth 100000
set_option maxHeartbeats 4000000
namespace K09
open PySem PySem.Spec PyProof.Rows L2 He VH RZ
/-! ways back -/
abbrev sWay : Stmt := top 43
abbrev sWy : Stmt := top 44
abbrev FnWay (K : PySem.W.Frag) (fd : FuncData) : Prop := FnP K "is_way" sWay (ga K "is_way") fd
abbrev FnWy (K : PySem.W.Frag) (fd : FuncData) : Prop := FnP K "wrong_way" sWy (ga K "wrong_way") fd
theorem bWay {K : PySem.W.Frag} {fd : FuncData} (F : FnWay K fd) : Binds K fd ["value", "many"] [] := FunD.bindsN F fun _ _ _ _ _ _ us hl => match us, hl with | [_, _], _ => rfl
theorem bWy {K : PySem.W.Frag} {fd : FuncData} (F : FnWy K fd) : Binds K fd ["back", "many"] [] := FunD.bindsN F fun _ _ _ _ _ _ us hl => match us, hl with | [_, _], _ => rfl
/-- a pair that can be a way -/
def wayB (r1 r2 : Option Int) (m : Int) : Bool := btwB r1 0 (m - 1) && (match r1 with
  | some i => btwB r2 0 (i - 1)
  | none => false)
/-- a pair of integers -/
def WyAt (K : PySem.W.Frag) (H : Hp) (x : V) (r : Int × Int) : Prop := ∃ p, x = .ref p ∧ SqT K H p [.int r.1, .int r.2]
theorem WyAt.same {K : PySem.W.Frag} {H H' : Hp} {x : V} {r : Int × Int} (h : WyAt K H x r) (s : Same H H') : WyAt K H' x r := by
  obtain ⟨p, e, h⟩ := h
  exact ⟨p, e, h.same s⟩
def wyT (r : Int × Int) : Tr := .tup [.int r.1, .int r.2]
theorem WyAt.at {K : PySem.W.Frag} {H : Hp} {x : V} {r : Int × Int} (h : WyAt K H x r) : At K H x (wyT r) := by
  obtain ⟨p, rfl, h⟩ := h
  exact .tup h (.cons .int (.cons .int .nil))
theorem wy_eq (r s : Int × Int) : Tr.eq (wyT r) (wyT s) = some (decide (r = s)) := by
  obtain ⟨a, b⟩ := r
  obtain ⟨c, d⟩ := s
  simp only [wyT, Tr.eq, Tr.eqs, Bool.and_true]
  congr 1
  by_cases h1 : a = c <;> by_cases h2 : b = d <;> simp [h1, h2]
theorem wy_any (rs : List (Int × Int)) (r : Int × Int) : Tr.anyEq (rs.map wyT) (wyT r) = some (rs.contains r) := by
  induction rs with
  | nil => rfl
  | cons a rs ih =>
    show (match Tr.eq (wyT a) (wyT r), Tr.anyEq (rs.map wyT) (wyT r) with
      | some b, some c => some (b || c)
      | _, _ => none) = _
    rw [wy_eq, ih, List.contains_cons]
    show some (decide (a = r) || rs.contains r) = some ((r == a) || rs.contains r)
    congr 2
    by_cases e : a = r
    · subst e; simp
    · rw [decide_eq_false e]
      exact (beq_eq_false_iff_ne.mpr fun z => e z.symm).symm
theorem wy_deps (rs : List (Int × Int)) : Tr.deps (rs.map wyT) ≤ 60 := by
  have : Tr.deps (rs.map wyT) ≤ 1 := by
    induction rs with
    | nil => exact Nat.zero_le _
    | cons a rs ih =>
      show max (Tr.dep (wyT a)) (Tr.deps (rs.map wyT)) ≤ 1
      exact Nat.max_le.mpr ⟨Nat.le_of_ble_eq_true rfl, ih⟩
  omega
theorem wys_ats {K : PySem.W.Frag} {H : Hp} : ∀ {xs : List V} {rs : List (Int × Int)}, Each (WyAt K) H xs rs → Ats K H xs (rs.map wyT)
  | [], [], _ => .nil
  | [], _ :: _, h => absurd h.1 (by simp)
  | _ :: _, [], h => absurd h.1 (by simp)
  | x :: xs, r :: rs, h => by
    obtain ⟨r', e, p⟩ := h.2 0 x rfl
    cases e
    refine .cons p.at (wys_ats ⟨by have := h.1; simpa using this, fun i x e => ?_⟩)
    exact h.2 (i + 1) x e
/-- no pair of integers -/
def NoWy (K : PySem.W.Frag) (H : Hp) (x : V) : Prop := (∃ t : Tr, At K H x t ∧ ∀ us, t ≠ .tup us) ∨ (∃ p xs, x = .ref p ∧ SqT K H p xs ∧ xs.length ≠ 2) ∨
  (∃ p y z r1 r2, x = .ref p ∧ SqT K H p [y, z] ∧ (∀ H', isI K H' y r1 ∧ isI K H' z r2) ∧ (r1 = none ∨ r2 = none))
theorem NoWy.same {K : PySem.W.Frag} {H H' : Hp} {x : V} (h : NoWy K H x) (s : Same H H') : NoWy K H' x := by
  rcases h with ⟨t, h, n⟩ | ⟨p, xs, e, h, n⟩ | ⟨p, y, z, r1, r2, e, h, i, n⟩
  · exact .inl ⟨t, h.same s, n⟩
  · exact .inr (.inl ⟨p, xs, e, h.same s, n⟩)
  · exact .inr (.inr ⟨p, y, z, r1, r2, e, h.same s, i, n⟩)
/-- a pair of integers, or none -/
def WyO (K : PySem.W.Frag) (H : Hp) (x : V) : Option (Int × Int) → Prop
  | some r => WyAt K H x r
  | none => NoWy K H x
theorem WyO.same {K : PySem.W.Frag} {H H' : Hp} {x : V} (s : Same H H') : ∀ {r : Option (Int × Int)}, WyO K H x r → WyO K H' x r
  | some _, h => WyAt.same h s
  | none, h => NoWy.same h s
def wayO (r : Option (Int × Int)) (m : Int) : Bool := match r with
  | some r => wayB (some r.1) (some r.2) m
  | none => false
def spWay (K : PySem.W.Frag) : Sp := fun vs H Q _ => ∃ (x : V) (r : Option (Int × Int)) (m : Int), vs = [x, .int m] ∧ WyO K H x r ∧ Q (.bl (wayO r m)) H
/-- right at k: a way, not told before -/
def okY (rs : List (Option (Int × Int))) (m : Int) (k : Nat) : Bool := match rs[k]? with
  | some (some r) => wayB (some r.1) (some r.2) m && !((rs.take k).filterMap id).contains r
  | _ => false
def badY (rs : List (Option (Int × Int))) (m : Int) : Option Nat := (List.range rs.length).find? fun k => !okY rs m k
theorem badY_some {rs : List (Option (Int × Int))} {mm : Int} {i : Nat} (l : i < rs.length) (f : okY rs mm i = false) (ok : ∀ m, m < i → okY rs mm m = true) : badY rs mm = some i := by
  unfold badY
  rw [List.find?_range_eq_some]
  refine ⟨by rw [f]; rfl, List.mem_range.mpr l, fun m hm => ?_⟩
  rw [ok m hm]
  rfl
theorem badY_none {rs : List (Option (Int × Int))} {mm : Int} (ok : ∀ m, m < rs.length → okY rs mm m = true) : badY rs mm = none := by
  unfold badY
  rw [List.find?_eq_none]
  intro m hm
  rw [ok m (List.mem_range.mp hm)]
  simp
theorem each_some {K : PySem.W.Frag} {H : Hp} : ∀ {xs : List V} {rs : List (Option (Int × Int))}, Each (WyO K) H xs rs → (∀ r ∈ rs, ∃ q, r = some q) → Each (WyAt K) H xs (rs.filterMap id)
  | [], [], h, _ => ⟨rfl, fun i x e => by cases e⟩
  | [], _ :: _, h, _ => absurd h.1 (by simp)
  | _ :: _, [], h, _ => absurd h.1 (by simp)
  | x :: xs, r :: rs, h, a => by
    obtain ⟨q, rfl⟩ := a r (List.mem_cons_self ..)
    obtain ⟨r', e, p⟩ := h.2 0 x rfl
    cases e
    have ih := each_some (xs := xs) (rs := rs) ⟨by have := h.1; simpa using this, fun i x e => h.2 (i + 1) x e⟩ (fun r hr => a r (List.mem_cons_of_mem _ hr))
    rw [List.filterMap_cons]
    refine ⟨by show _ = ((q :: rs.filterMap id)).length; rw [List.length_cons, List.length_cons, ih.1], fun i y e => ?_⟩
    cases i with
    | zero =>
      cases e
      exact ⟨q, rfl, p⟩
    | succ i => exact ih.2 i y e
def spWy (K : PySem.W.Frag) : Sp := fun vs H Q _ => ∃ (a : Addr) (xs : List V) (rs : List (Option (Int × Int))) (m : Int), vs = [.ref a, .int m] ∧ SqV K H a xs ∧ Each (WyO K) H xs rs ∧ xs.length ≤ 1000 ∧ ∀ H', Same H H' → Q (numV (badY rs m)) H'
section
variable {P : Program} {w : World} {K : PySem.W.Frag} {mg : Str → Option Value} {base : Heap} {f : Addr} {fd fdI fdB fdY : FuncData}
theorem scWay : FnScope ["value", "many"] ["value", "many"] (defScope sWay) := ⟨rfl, rfl, rfl, by decide +kernel, rfl, by decide +kernel, by decide +kernel⟩
theorem at0' {x y : V} : atI [x, y] 0 = some x := rfl
theorem at1' {x y : V} : atI [x, y] 1 = some y := rfl
theorem ok_way (F : FnP K "is_way" sWay f fd) (T : Txt K mg w) (FB : FnBtw K fdB) (FI : FnInt K fdI) : FnOk P w K mg base CX0 3 f fd ["value", "many"] (spWay K) := by
  have GB : FnOk P w K mg base CX0 2 (ga K "is_between") fdB ["value", "least", "most"] (spBtw K) := ok_btw FB T FI
  refine F.ok scWay (fun vs H Q E h => ?_) (fun cdv A outer s H vs Q E hr h => ?_)
  · obtain ⟨_, _, _, rfl, _⟩ := h
    rfl
  refine ⟨_, PSs.nox (pss_cons (ps_if (PW.pt (pw_or (pt_not (pt_val (pe_callB call_isi (by rfl) T.g_isinstance boot_isinstance (pa_cons (pv 0) (pa_cons (pe_bltn (v := .ty "tuple") (by rfl) T.g_tuple boot_tuple rfl) pa_nil)))))
      (pw_or (pt_cmpR op_ne (pe_callB call_len_seq (by rfl) T.g_len boot_len (pa_cons (pv 0) pa_nil)) pe_int (nomark _))
      (pw_or1 (pt_not (pt_val (pe_call GB (hr.mono (by decide)) (by rfl) T.m_is_between FB.kp (bBtw FB) .nil pass0 (pa_cons (pe_ix ix_tup (pv 0) pe_int (fun _ _ => rfl)) (pa_cons pe_int (pa_cons (pe_op op_sub (pv 1) pe_int) pa_nil))))))))))
      (pss_one (ps_ret pe_bl)) pss_nil)
    (pss_one (ps_ret (pe_call GB (hr.mono (by decide)) (by rfl) T.m_is_between FB.kp (bBtw FB) .nil pass0 (pa_cons (pe_ix ix_tup (pv 0) pe_int (fun _ _ => rfl)) (pa_cons pe_int (pa_cons (pe_op op_sub (pe_ix ix_tup (pv 0) pe_int (fun _ _ => rfl)) pe_int) pa_nil))))))), ?_⟩
  obtain ⟨x, r, m, rfl, hx, q⟩ := h
  have key : ((∃ t : Tr, At K H x t ∧ ∀ us, t ≠ .tup us) ∧ Q (.bl false) H) ∨ ((∃ p xs, x = .ref p ∧ SqT K H p xs ∧ xs.length ≠ 2) ∧ Q (.bl false) H) ∨
      ∃ p y z r1 r2, x = .ref p ∧ SqT K H p [y, z] ∧ isI K H y r1 ∧ isI K H z r2 ∧ Q (.bl (wayB r1 r2 m)) H := by
    match r, hx, q with
    | some r, hx, q =>
      obtain ⟨p, ex, hp⟩ := hx
      exact .inr (.inr ⟨p, _, _, some r.1, some r.2, ex, hp, .inl ⟨_, rfl, rfl⟩, .inl ⟨_, rfl, rfl⟩, q⟩)
    | none, hx, q =>
      rcases hx with h | h | ⟨p, y, z, r1, r2, ex, hp, i, n⟩
      · exact .inl ⟨h, q⟩
      · exact .inr (.inl ⟨h, q⟩)
      · refine .inr (.inr ⟨p, y, z, r1, r2, ex, hp, (i H).1, (i H).2, ?_⟩)
        have e : wayB r1 r2 m = false := by
          unfold wayB
          rcases n with rfl | rfl
          · rfl
          · cases r1 with
            | none => rfl
            | some j => exact Bool.and_false _
        rw [e]
        exact q
  clear hx q
  rcases key with ⟨⟨t, h, n⟩, q⟩ | ⟨⟨p, xs, rfl, hp, n⟩, q⟩ | ⟨p, y, z, r1, r2, rfl, hp, h1, h2, q⟩
  · exact ⟨_, rfl, _, _, _, _, false, rfl, .ty "tuple", h.ty, noTup n K, false, rfl, iteT q⟩
  · refine ⟨_, rfl, _, _, _, _, true, rfl, .ty "tuple", sqT_ty hp, kit_ty (by decide +kernel), true, rfl, iteF ?_⟩
    refine ⟨_, rfl, p, _, rfl, .inr hp, rfl, _, rfl, ?_⟩
    rw [show (!decide (V.int ((xs.length : Nat) : Int) = V.int 2)) = true by
      have : ((xs.length : Nat) : Int) ≠ 2 := by omega
      simp [this]]
    exact iteT q
  · refine ⟨_, rfl, _, _, _, _, true, rfl, .ty "tuple", sqT_ty hp, kit_ty (by decide +kernel), true, rfl, iteF ?_⟩
    refine ⟨_, rfl, p, _, rfl, .inr hp, rfl, false, rfl, iteF ?_⟩
    refine ⟨_, rfl, _, _, _, _, rfl, rfl, hp, at0', _, rfl, _, _, rfl, rfl, y, 0, m - 1, r1, rfl, h1, btwB r1 0 (m - 1), rfl, ?_⟩
    unfold wayB at q
    cases b1 : btwB r1 0 (m - 1) with
    | false =>
      rw [b1, Bool.false_and] at q
      exact iteT q
    | true =>
      rw [b1, Bool.true_and] at q
      refine iteF ?_
      rcases h1 with ⟨i, rfl, rfl⟩ | ⟨_, rfl⟩
      · exact ⟨_, rfl, _, _, _, _, rfl, rfl, hp, at1', _, rfl, _, _, _, _, rfl, rfl, hp, at0', _, _, rfl, rfl, z, 0, i - 1, r2, rfl, h2, q⟩
      · cases b1
abbrev nWy : List Str := ["back", "many", "ways", "at", "way"]
theorem scWy : FnScope nWy ["back", "many"] (defScope sWy) := ⟨rfl, rfl, rfl, by decide +kernel, rfl, by decide +kernel, by decide +kernel⟩
theorem ok_wy (F : FnP K "wrong_way" sWy f fd) (T : Txt K mg w) (FY : FnWay K fdY) (FB : FnBtw K fdB) (FI : FnInt K fdI) : FnOk P w K mg base CX0 4 f fd ["back", "many"] (spWy K) := by
  have GY : FnOk P w K mg base CX0 3 (ga K "is_way") fdY ["value", "many"] (spWay K) := ok_way FY T FB FI
  refine F.ok scWy (fun vs H Q E h => ?_) (fun cdv A outer s H vs Q E hr h => ?_)
  · obtain ⟨_, _, _, _, rfl, _⟩ := h
    rfl
  have u65 : (A.deeper (envOfC "wrong_way" (defScope sWy) s.heap.objs.size f cdv)).units + 65 < cLine := by have := hr.un; omega
  refine ⟨_, PSs.nox (pss_cons (ps_set (i := 2) scWy.nd rfl (Or.inl rfl) (pe_lst pa_nil))
    (pss_cons (ps_for PassesOwn.never rfl (pi_enumV (by rfl) T.g_enumerate (pa_cons (pv 0) pa_nil)) (pg_tup rfl (pgs_cons (pg_name (i := 3) scWy.nd rfl (Or.inl rfl)) (pgs_cons (pg_name (i := 4) scWy.nd rfl (Or.inl rfl)) pgs_nil)))
      (pss_cons (ps_if (PW.pt (pw_or (pt_not (pt_val (pe_call GY (hr.mono (by decide)) (by rfl) T.m_is_way FY.kp (bWay FY) .nil pass0 (pa_cons (pv 4) (pa_cons (pv 1) pa_nil)))))
          (pw_or1 (pt_cmpR (op_inV u65) (pv 4) (pv 2) (by rfl))))) (pss_one (ps_ret (pv 3))) pss_nil)
      (pss_one (ps_expr (pe_bm PySem.F.plainAttrs_list PySem.F.slot_list_append PySem.F.type_list_append mt_append (pv 2) (pa_cons (pv 4) pa_nil))))))
    (pss_one (ps_ret pe_non)))), ?_⟩
  obtain ⟨a, xs, rs, mm, rfl, hv, he, lx, k⟩ := h
  have big : 1000 < sizeLine := by decide
  obtain ⟨b, hb⟩ := hv.sqb
  have ll := he.1
  refine ⟨(show 0 ≤ sizeLine by decide), fun l nl => ?_⟩
  have S0 := Same.new (o := .lst []) nl
  refine ⟨_, rfl, a, xs, b, rfl, SqB.same S0 hb, ?_⟩
  refine for_enumV (K := K) (xs := xs) (fun i σ G => ∃ v2 v3 : Option V, σ = [some (.ref a), some (.int mm), some (.ref l), v2, v3] ∧ Same H G ∧ G l = some (.lst (xs.take i)) ∧ ∀ m, m < i → okY rs mm m = true)
    ⟨_, _, rfl, S0, upd_same, fun m hm => absurd hm (Nat.not_lt_zero m)⟩ (fun i σ G _ g => ?_) (fun i x σ G Tt hx g nT => ?_) (fun σ G g => ?_)
  · obtain ⟨_, _, _, sG, _⟩ := g
    exact SqB.same sG hb
  · obtain ⟨v2, v3, rfl, sG, hl, ok⟩ := g
    have li := (List.getElem?_eq_some_iff.mp hx).1
    obtain ⟨r, er, hr⟩ := he.2 i x hx
    have sT := Same.new (o := .tup [.int (i : Nat), x]) nT
    have S1 := sG.trans sT
    have hl1 := sT _ _ hl
    have hT : upd G Tt (.tup [.int (i : Nat), x]) Tt = some (.tup [.int (i : Nat), x]) := upd_same
    generalize upd G Tt (.tup [.int (i : Nat), x]) = G1 at S1 hT hl1 ⊢
    clear sT hl nT
    refine ⟨Tt, _, rfl, SqT.of hT, rfl, _, _, rfl, _, _, rfl, rfl, ?_⟩
    have stop : okY rs mm i = false → Q (.int i) G1 := fun e => by
      have := k G1 S1
      rw [badY_some (by omega) e ok] at this
      exact this
    match r, hr, er with
    | none, hr, er =>
      exact ⟨_, rfl, _, rfl, _, none, mm, rfl, hr.same S1, false, rfl, iteT ⟨_, rfl, stop (by unfold okY; rw [er])⟩⟩
    | some r, hr, er =>
    have eo : okY rs mm i = (wayB (some r.1) (some r.2) mm && !((rs.take i).filterMap id).contains r) := by unfold okY; rw [er]
    have hr : WyAt K H x r := hr
    refine ⟨_, rfl, _, rfl, _, some r, mm, rfl, hr.same S1, wayB (some r.1) (some r.2) mm, rfl, ?_⟩
    cases b1 : wayB (some r.1) (some r.2) mm with
    | false => exact iteT ⟨_, rfl, stop (by rw [eo, b1]; rfl)⟩
    | true =>
      have ets : Each (WyAt K) G1 (xs.take i) ((rs.take i).filterMap id) := by
        refine each_some ⟨by rw [List.length_take, List.length_take, ll], fun j y hy => ?_⟩ (fun r hr => ?_)
        · have lj := (List.getElem?_eq_some_iff.mp hy).1
          rw [List.length_take] at lj
          rw [List.getElem?_take_of_lt (by omega)] at hy ⊢
          obtain ⟨r', e', p'⟩ := he.2 j y hy
          exact ⟨r', e', p'.same S1⟩
        · obtain ⟨j, hj, e⟩ := List.mem_take_iff_getElem.mp hr
          have o := ok j (by omega)
          unfold okY at o
          rw [List.getElem?_eq_getElem (by omega), e] at o
          match r, o with
          | some q, _ => exact ⟨q, rfl⟩
      refine iteF ⟨_, rfl, _, rfl, _, _, _, l, _, (hr.same S1).at, rfl, .inl (SqL.of hl1), wys_ats ets, wy_any _ _, wy_deps _, ?_⟩
      show ∃ b, V.bl (((rs.take i).filterMap id).contains r) = .bl b ∧ _
      cases c : ((rs.take i).filterMap id).contains r with
      | true => exact ⟨_, rfl, iteT ⟨_, rfl, stop (by rw [eo, c, Bool.not_true, Bool.and_false])⟩⟩
      | false =>
        refine ⟨_, rfl, iteF ⟨_, rfl, .inl ⟨rfl, _, SqL.of hl1⟩, _, rfl, l, _, _, rfl, rfl, hl1, ?_, _, _, rfl, same_put S1 nl, ?_, fun m hm => ?_⟩⟩
        · rw [List.length_take]
          omega
        · rw [upd_same, List.take_succ, hx]
          rfl
        · by_cases q : m = i
          · rw [q, eo, c, b1]; rfl
          · exact ok m (by omega)
  · obtain ⟨v2, v3, rfl, sG, hl, ok⟩ := g
    have := k G sG
    rw [badY_none (fun m hm => ok m (by omega))] at this
    exact this
end
end K09

set_option maxRecDepth 100000
set_option maxHeartbeats 4000000
namespace K09
open PySem PySem.Spec PyProof.Rows L2 He VH RZ
/-! which Phase is wrong -/
abbrev sWp : Stmt := top 42
abbrev FnWp (K : PySem.W.Frag) (fd : FuncData) : Prop := FnP K "wrong_phase" sWp (ga K "wrong_phase") fd
theorem bWp {K : PySem.W.Frag} {fd : FuncData} (F : FnWp K fd) : Binds K fd ["phases", "known"] [] := FunD.bindsN F fun _ _ _ _ _ _ us hl => match us, hl with | [_, _], _ => rfl
structure Ph where
  z : Str
  ws : List Str
  b : Bool
  ps : List Str
  qs : List Str
  deriving DecidableEq
def PhS (K : PySem.W.Frag) (H : Hp) (a : Addr) (d : Ph) : Prop := PhAt K H a d.z (d.ws.map V.str) d.b (d.ps.map V.str) (d.qs.map V.str)
theorem PhS.same {K : PySem.W.Frag} {H H' : Hp} {a : Addr} {d : Ph} (h : PhS K H a d) (s : Same H H') : PhS K H' a d := by
  obtain ⟨dx, t1, t2, t3, h, a1, a2, a3⟩ := h
  exact ⟨dx, t1, t2, t3, s _ _ h, a1.same s, a2.same s, a3.same s⟩
theorem PhAt.ty {K : PySem.W.Frag} {mg : Str → Option Value} {w : World} (T : Txt K mg w) {H : Hp} {a : Addr} {z : Str} {ws ps qs : List V} {b : Bool} (h : PhAt K H a z ws b ps qs) : TyX K H (.ref a) (.ref (ga K "Phase")) := by
  obtain ⟨dx, _, _, _, h, _⟩ := h
  exact .base (.ins h T.c_Phase T.o_Phase.cls T.dc1 T.dc2 T.o_Phase.mro)
/-- a Phase, or none -/
def IsPh (K : PySem.W.Frag) (H : Hp) (x : V) : Option Ph → Prop
  | some d => (∃ a, x = .ref a ∧ PhS K H a d) ∧ d.ws.length ≤ 1000
  | none => NoC K "Phase" H x
theorem IsPh.same {K : PySem.W.Frag} {H H' : Hp} {x : V} (s : Same H H') : ∀ {r : Option Ph}, IsPh K H x r → IsPh K H' x r
  | some _, ⟨⟨a, e, h⟩, l⟩ => ⟨⟨a, e, h.same s⟩, l⟩
  | none, h => NoC.same h s
def phN (ds : List (Option Ph)) : List Str := ds.filterMap fun d => d.map (·.z)
/-- right at k -/
def okP (ds : List (Option Ph)) (kn : List Str) (k : Nat) : Bool := match ds[k]? with
  | some (some d) => !(phN (ds.take k)).contains d.z && d.ws.all kn.contains
  | _ => false
def badP (ds : List (Option Ph)) (kn : List Str) : Option Nat := (List.range ds.length).find? fun k => !okP ds kn k
theorem badP_some {ds : List (Option Ph)} {kn : List Str} {i : Nat} (l : i < ds.length) (f : okP ds kn i = false) (ok : ∀ m, m < i → okP ds kn m = true) : badP ds kn = some i := by
  unfold badP
  rw [List.find?_range_eq_some]
  refine ⟨by rw [f]; rfl, List.mem_range.mpr l, fun m hm => ?_⟩
  rw [ok m hm]
  rfl
theorem badP_none {ds : List (Option Ph)} {kn : List Str} (ok : ∀ m, m < ds.length → okP ds kn m = true) : badP ds kn = none := by
  unfold badP
  rw [List.find?_eq_none]
  intro m hm
  rw [ok m (List.mem_range.mp hm)]
  simp
def spWp (K : PySem.W.Frag) : Sp := fun vs H Q _ => ∃ (a n : Addr) (xs : List V) (ds : List (Option Ph)) (kn : List Str), vs = [.ref a, .ref n] ∧ SqV K H a xs ∧ Each (IsPh K) H xs ds ∧ xs.length ≤ 1000 ∧ SqV K H n (kn.map V.str) ∧ ∀ H', Same H H' → Q (numV (badP ds kn)) H'
section
variable {P : Program} {w : World} {K : PySem.W.Frag} {mg : Str → Option Value} {base : Heap} {f : Addr} {fd : FuncData}
abbrev nWp : List Str := ["phases", "known", "names", "at", "phase", "name"]
theorem scWp : FnScope nWp ["phases", "known"] (defScope sWp) := ⟨rfl, rfl, rfl, by decide +kernel, rfl, by decide +kernel, by decide +kernel⟩
theorem ok_wp (F : FnP K "wrong_phase" sWp f fd) (T : Txt K mg w) : FnOk P w K mg base CX0 1 f fd ["phases", "known"] (spWp K) := by
  refine F.ok scWp (fun vs H Q E h => ?_) (fun cdv A outer s H vs Q E hr h => ?_)
  · obtain ⟨_, _, _, _, _, rfl, _⟩ := h
    rfl
  refine ⟨_, PSs.nox (pss_cons (ps_set (i := 2) scWp.nd rfl (Or.inl rfl) (pe_lst pa_nil))
    (pss_cons (ps_for PassesOwn.never rfl (pi_enumV (by rfl) T.g_enumerate (pa_cons (pv 0) pa_nil)) (pg_tup rfl (pgs_cons (pg_name (i := 3) scWp.nd rfl (Or.inl rfl)) (pgs_cons (pg_name (i := 4) scWp.nd rfl (Or.inl rfl)) pgs_nil)))
      (pss_cons (ps_if (PW.pt (pw_or (pt_not (pt_val (pe_callB call_isi (by rfl) T.g_isinstance boot_isinstance (pa_cons (pv 4) (pa_cons (pe_glob (v := .ref (ga K "Phase")) (by rfl) T.m_Phase rfl) pa_nil)))))
          (pw_or1 (pt_cmpR op_in_seq (pe_fld (pv 4) (by rfl)) (pv 2) (by rfl))))) (pss_one (ps_ret (pv 3))) pss_nil)
      (pss_cons (ps_if (pt_not (pt_val (pe_callB (cr_all rfl) (by rfl) T.g_all boot_all (pa_cons (pe_lc (own := [("name", 5)]) (g := gName 5) (tt := tYes) (te := tOp (rIn K false) (tVar 5) (tVar 1)) rfl scWp.nd (pi_tup (pe_fld (pv 4) (by rfl))) (blkOk_by (N := nWp) (sc := defScope sWp) (by decide +kernel))
          (fun _ _ _ _ _ => pg_name (i := 5) scWp.nd rfl (Or.inl rfl)) (fun _ _ _ _ _ => pts_nil) (fun _ _ _ _ _ => pe_cmpR op_in_seq (pv 5) (pv 1) (by rfl))) pa_nil)))) (pss_one (ps_ret (pv 3))) pss_nil)
      (pss_one (ps_expr (pe_bm PySem.F.plainAttrs_list PySem.F.slot_list_append PySem.F.type_list_append mt_append (pv 2) (pa_cons (pe_fld (pv 4) (by rfl)) pa_nil)))))))
    (pss_one (ps_ret pe_non)))), ?_⟩
  obtain ⟨a, n, xs, ds, kn, rfl, hv, he, lx, hn, k⟩ := h
  have big : 1000 < sizeLine := by decide
  obtain ⟨b, hb⟩ := hv.sqb
  have ll := he.1
  refine ⟨(show 0 ≤ sizeLine by decide), fun l nl => ?_⟩
  have S0 := Same.new (o := .lst []) nl
  refine ⟨_, rfl, a, xs, b, rfl, SqB.same S0 hb, ?_⟩
  refine for_enumV (K := K) (xs := xs) (fun i σ G => ∃ v2 v3 v5 : Option V, σ = [some (.ref a), some (.ref n), some (.ref l), v2, v3, v5] ∧ Same H G ∧ G l = some (.lst ((phN (ds.take i)).map V.str)) ∧ ∀ m, m < i → okP ds kn m = true)
    ⟨_, _, _, rfl, S0, upd_same, fun m hm => absurd hm (Nat.not_lt_zero m)⟩ (fun i σ G _ g => ?_) (fun i x σ G Tt hx g nT => ?_) (fun σ G g => ?_)
  · obtain ⟨_, _, _, _, sG, _⟩ := g
    exact SqB.same sG hb
  · obtain ⟨v2, v3, v5, rfl, sG, hl, ok⟩ := g
    have li := (List.getElem?_eq_some_iff.mp hx).1
    obtain ⟨r, er, hr⟩ := he.2 i x hx
    have sT := Same.new (o := .tup [.int (i : Nat), x]) nT
    have S1 := sG.trans sT
    have hl1 := sT _ _ hl
    have hT : upd G Tt (.tup [.int (i : Nat), x]) Tt = some (.tup [.int (i : Nat), x]) := upd_same
    generalize upd G Tt (.tup [.int (i : Nat), x]) = G1 at S1 hT hl1 ⊢
    clear sT hl nT
    refine ⟨Tt, _, rfl, SqT.of hT, rfl, _, _, rfl, _, _, rfl, rfl, ?_⟩
    have hr1 := hr.same S1
    have stop : okP ds kn i = false → ∀ G', Same G1 G' → Q (.int i) G' := fun e G' s => by
      have := k G' (S1.trans s)
      rw [badP_some (by omega) e ok] at this
      exact this
    cases r with
    | none =>
      obtain ⟨t, ty, kk⟩ := hr1 G1 (Same.refl _)
      exact ⟨_, rfl, _, _, _, _, false, rfl, .own (ga K "Phase"), ty, kk, false, rfl, iteT ⟨_, rfl, stop (by unfold okP; rw [er]) G1 (Same.refl _)⟩⟩
    | some d =>
      obtain ⟨⟨wa, rfl, hw⟩, lw⟩ := hr1
      have ty := PhAt.ty T hw
      obtain ⟨dx, t1, t2, t3, hwa, w1, _, _⟩ := id hw
      refine ⟨_, rfl, _, _, _, _, true, rfl, .own (ga K "Phase"), ty, T.o_Phase.kk, true, rfl, iteF ?_⟩
      refine ⟨_, rfl, wa, _, dx, _, _, rfl, hwa, T.c_Phase, T.n_Phase_name, rfl, _, rfl, l, _, rfl, .inl (SqL.of hl1), rfl, flat_strs, ?_⟩
      rw [inV_strs]
      have eo : okP ds kn i = (!(phN (ds.take i)).contains d.z && d.ws.all kn.contains) := by unfold okP; rw [er]
      cases c : (phN (ds.take i)).contains d.z with
      | true => exact ⟨_, rfl, iteT ⟨_, rfl, stop (by rw [eo, c]; rfl) G1 (Same.refl _)⟩⟩
      | false =>
        rw [c, Bool.not_false, Bool.true_and] at eo
        refine ⟨_, rfl, iteF ?_⟩
        refine ⟨_, rfl, wa, _, dx, _, _, rfl, hwa, T.c_Phase, T.n_Phase_writers, rfl, t1, rfl, ⟨_, w1⟩, fun D nD => ?_⟩
        refine lc_tup (K := K) (xs := d.ws.map V.str) (fun j G' => Same G1 G' ∧ G' D = some (.lst (((d.ws.take j).map kn.contains).map V.bl))) ⟨Same.new nD, upd_same⟩ (fun j G' _ g => w1.same g.1) (fun j y G' hy g => ?_) (fun G' g => ?_)
        · obtain ⟨s2, h2⟩ := g
          rw [List.getElem?_map] at hy
          obtain ⟨u, hu, rfl⟩ := Option.map_eq_some_iff.mp hy
          have lj := (List.getElem?_eq_some_iff.mp hu).1
          refine ⟨rfl, _, rfl, _, rfl, n, _, rfl, (hn.same (S1.trans s2)), rfl, flat_strs, ?_⟩
          refine ⟨_, h2, ?_, same_put s2 nD, ?_⟩
          · rw [List.length_map, List.length_map, List.length_take]
            omega
          · rw [upd_same, List.take_succ, hu]
            simp [inV_strs]
        · obtain ⟨s2, h2⟩ := g
          rw [List.length_map, List.take_length] at h2
          refine ⟨D, d.ws.map kn.contains, rfl, SqL.of h2, ?_⟩
          have ea : (d.ws.map kn.contains).all id = d.ws.all kn.contains := by rw [List.all_map]; rfl
          have S2 := S1.trans s2
          have hl2 := s2 _ _ hl1
          have hwa2 := s2 _ _ hwa
          cases ca : d.ws.all kn.contains with
          | false => exact ⟨false, by rw [← ca, ← ea], iteT ⟨_, rfl, stop (by rw [eo, ca]) _ s2⟩⟩
          | true =>
            refine ⟨true, by rw [← ca, ← ea], iteF ?_⟩
            refine ⟨_, rfl, .inl ⟨rfl, _, SqL.of hl2⟩, _, rfl, wa, _, dx, _, _, rfl, hwa2, T.c_Phase, T.n_Phase_name, rfl, l, _, _, rfl, rfl, hl2, ?_, _, _, _, rfl, same_put S2 nl, ?_, fun m hm => ?_⟩
            · have := List.length_filterMap_le (fun d : Option Ph => d.map (·.z)) (ds.take i)
              rw [List.length_take] at this
              unfold phN
              rw [List.length_map]
              omega
            · rw [upd_same, List.take_succ, er]
              simp [phN]
            · by_cases q : m = i
              · rw [q, eo, ca]
              · exact ok m (by omega)
  · obtain ⟨v2, v3, v5, rfl, sG, hl, ok⟩ := g
    have := k G sG
    rw [badP_none (fun m hm => ok m (by omega))] at this
    exact this
end
end K09

set_option maxRecDepth 100000
set_option maxHeartbeats 4000000
/-! != of two lists whose items are the same things, or tuples of the same things. -/
namespace L2
open PySem PySem.Spec PyProof.Rows
def plainV : V → Bool
  | .ref _ => true
  | v => flatB v
theorem eqAt_plain {A : Around} {s : Shared} {v : V} {u u' : Value} (r : RelV v u) (r' : RelV v u') (f : plainV v = true) : SeqAt.EqAt A s u u' true := by
  cases v with
  | ref a =>
    cases (show u = Value.ref a from r)
    cases (show u' = Value.ref a from r')
    exact SeqAt.EqAt.same _
  | non => exact eqAt_same r r' f
  | bl b => exact eqAt_same r r' f
  | int i => exact eqAt_same r r' f
  | str z => exact eqAt_same r r' f
  | byt b => exact eqAt_same r r' f
  | flt b => cases f
  | ty n => cases f
/-- the same thing, or tuples of the same things -/
def SmV (K : PySem.W.Frag) (H : Hp) (x y : V) : Prop := (x = y ∧ plainV x = true) ∨ ∃ (a b : Addr) (xs : List V), x = .ref a ∧ y = .ref b ∧ SqT K H a xs ∧ SqT K H b xs ∧ ∀ v ∈ xs, plainV v = true
def SmL (K : PySem.W.Frag) (H : Hp) : List V → List V → Prop
  | [], [] => True
  | x :: xs, y :: ys => SmV K H x y ∧ SmL K H xs ys
  | _, _ => False
theorem SmL.same {K : PySem.W.Frag} {H : Hp} : ∀ {xs : List V}, (∀ v ∈ xs, plainV v = true) → SmL K H xs xs
  | [], _ => trivial
  | x :: xs, h => ⟨.inl ⟨rfl, h x (by simp)⟩, SmL.same fun v hv => h v (by simp [hv])⟩
theorem SmL.len {K : PySem.W.Frag} {H : Hp} : ∀ {xs ys : List V}, SmL K H xs ys → xs.length = ys.length
  | [], [], _ => rfl
  | [], _ :: _, h => h.elim
  | _ :: _, [], h => h.elim
  | _ :: _, _ :: _, ⟨_, h⟩ => congrArg Nat.succ h.len
theorem SmL.at {K : PySem.W.Frag} {H : Hp} : ∀ {xs ys : List V} {i : Nat} {x y : V}, SmL K H xs ys → xs[i]? = some x → ys[i]? = some y → SmV K H x y
  | [], _, _, _, _, _, e, _ => by simp at e
  | _ :: _, [], _, _, _, h, _, _ => h.elim
  | x :: xs, y :: ys, 0, _, _, ⟨h, _⟩, e1, e2 => by
    simp at e1 e2
    rw [← e1, ← e2]
    exact h
  | x :: xs, y :: ys, i + 1, _, _, ⟨_, h⟩, e1, e2 => SmL.at (i := i) h (by simpa using e1) (by simpa using e2)
section
variable {X : Cx} {pins : List (Addr × Obj)} {σ : St} {H : Hp} {s : Shared}
theorem eqAt_sm (I : Inv X pins σ H s) {A : Around} (hu : A.units < cLine) {x y : V} {u u' : Value} (h : SmV X.K H x y) (r : RelV x u) (r' : RelV y u') : SeqAt.EqAt A s u u' true := by
  rcases h with ⟨rfl, f⟩ | ⟨a, b, xs, rfl, rfl, ha, hb, pl⟩
  · exact eqAt_plain r r' f
  · cases (show u = Value.ref a from r)
    cases (show u' = Value.ref b from r')
    by_cases e : a = b
    · subst e
      exact SeqAt.EqAt.same _
    · obtain ⟨us, r1, ⟨o1, g1, c1, n1, d1⟩, _⟩ := I.tuple ha
      obtain ⟨ws, r2, ⟨o2, g2, c2, n2, d2⟩, _⟩ := I.tuple hb
      refine SeqAt.EqAt.of_refs e ?_
      have lu := r1.length
      have lw := r2.length
      have hh := SeqAt.RcAt.tuples (s := s) (A := A) (e := fun _ => true) ⟨o1, g1, c1, n1, d1⟩ ⟨o2, g2, c2, n2, d2⟩ hu (fun j h1 h2 => by
        have h1' : j < us.length := by simpa using h1
        have h2' : j < ws.length := by simpa using h2
        have hx : j < xs.length := by omega
        obtain ⟨u1, e1, q1⟩ := r1.get (List.getElem?_eq_getElem hx)
        obtain ⟨u2, e2, q2⟩ := r2.get (List.getElem?_eq_getElem hx)
        rw [List.getElem?_eq_getElem h1'] at e1
        rw [List.getElem?_eq_getElem h2'] at e2
        cases Option.some.inj e1
        cases Option.some.inj e2
        exact eqAt_plain q1 q2 (pl _ (List.getElem_mem hx)))
      have e2 : ((List.range (min us.toArray.size ws.toArray.size)).all (fun _ => true) && us.toArray.size == ws.toArray.size) = true := by
        have : us.toArray.size = ws.toArray.size := by
          rw [List.size_toArray, List.size_toArray]
          omega
        rw [this]
        simp
      rw [e2] at hh
      exact hh
def rNeS (K : PySem.W.Frag) : R2 := fun x y H Q => ∃ (a b : Addr) (xs ys : List V), x = .ref a ∧ y = .ref b ∧ SqL K H a xs ∧ SqL K H b ys ∧ SmL K H xs ys ∧ Q (.bl false) H
theorem op_neS (hu : X.A.units + 64 < cLine) : OpR X (compareOp .NotEq) (rNeS X.K) := by
  intro pins s σ H x y v u Q I rx ry h
  obtain ⟨a, b, xs, ys, rfl, rfl, ha, hb, sm, q⟩ := h
  cases (show v = Value.ref a from rx)
  cases (show u = Value.ref b from ry)
  obtain ⟨us, r1, p1, _⟩ := I.list ha
  obtain ⟨ws, r2, p2, _⟩ := I.list hb
  have lu := r1.length
  have lw := r2.length
  have ll := sm.len
  have sz : us.toArray.size = ws.toArray.size := by
    rw [List.size_toArray, List.size_toArray]
    omega
  have hh := SeqAt.RcNeAt.lists (s := s) (A := X.A) (e := fun _ => true) p1.isList p2.isList sz (by omega) (fun j h1 h2 => by
    have h1' : j < us.length := by simpa using h1
    have h2' : j < ws.length := by simpa using h2
    have hx : j < xs.length := by omega
    have hy : j < ys.length := by omega
    obtain ⟨u1, e1, q1⟩ := r1.get (List.getElem?_eq_getElem hx)
    obtain ⟨u2, e2, q2⟩ := r2.get (List.getElem?_eq_getElem hy)
    rw [List.getElem?_eq_getElem h1'] at e1
    rw [List.getElem?_eq_getElem h2'] at e2
    cases Option.some.inj e1
    cases Option.some.inj e2
    exact eqAt_sm I (A := X.A.in1) (by show X.A.units + 1 < cLine; omega) (sm.at (List.getElem?_eq_getElem hx) (List.getElem?_eq_getElem hy)) q1 q2)
  have e0 : (!(List.range us.toArray.size).all fun _ => true) = false := by simp
  rw [e0] at hh
  exact hh X.prog X.w _ _ ⟨.bl false, H, I, rfl, q⟩
end
end L2

set_option maxRecDepth 100000
set_option maxHeartbeats 4000000
namespace K09
open PySem PySem.Spec PyProof.Rows L2 He VH RZ
/-! a Rollout made (of what is right) -/
abbrev sNoR : Stmt := inClass (top 6) 0
abbrev sRoI : Stmt := inClass (top 45) 0
abbrev FnNoR (K : PySem.W.Frag) (fd : FuncData) : Prop := FnM K "__init__" "NoRollout.__init__" 6 0 (ma K (ga K "NoRollout") "__init__") fd
abbrev kwR (K : PySem.W.Frag) : List (Str × V) := [("workers", .int 1), ("hands", .int 1), ("back", .ref (kwA ("Rollout", some "__init__") "back" K))]
abbrev FnRoI (K : PySem.W.Frag) (fd : FuncData) : Prop := FunD K "__init__" "Rollout.__init__" (defArgs sRoI) (defBody sRoI) (defScope sRoI) [] (kwR K) (ma K (ga K "Rollout") "__init__") fd
/-- what a Rollout is made of: names of Writers, Phases, ways -/
structure Ro where
  zs : List Str
  ds : List Ph
  wk : Int
  hd : Int
  rs : List (Int × Int)
structure Ro.Ok (d : Ro) : Prop where
  z1 : 1 ≤ d.zs.length
  z4 : d.zs.length ≤ 4
  zn : badN (d.zs.map some) = none
  p1 : 1 ≤ d.ds.length
  p6 : d.ds.length ≤ 6
  pn : badP (d.ds.map some) d.zs = none
  w1 : 1 ≤ d.wk
  w2 : d.wk ≤ 2
  h0 : 0 ≤ d.hd
  h2 : d.hd ≤ 2
  bl : d.rs.length ≤ 1000
  bn : badY (d.rs.map some) d.ds.length = none
/-- a Fill and its statement -/
def FlK (K : PySem.W.Frag) (H : Hp) (fa : Addr) : Prop := ∃ p e s, FlAt K H fa p e ∧ StAt H p s
theorem FlK.same {K : PySem.W.Frag} {H H' : Hp} {fa : Addr} (h : FlK K H fa) (s : Same H H') : FlK K H' fa := by
  obtain ⟨p, e, st, ⟨dx, h⟩, hp⟩ := h
  exact ⟨p, e, st, ⟨dx, s _ _ h⟩, hp.same fun _ _ z => s _ _ z⟩
/-- its parts stand -/
structure Parts (K : PySem.W.Frag) (H : Hp) (ws ps bs : List V) (fa : Addr) (d : Ro) : Prop where
  w : Each (IsWr K) H ws (d.zs.map some)
  f : FlK K H fa
  p : Each (IsPh K) H ps (d.ds.map some)
  b : Each (WyAt K) H bs d.rs
def Ro.has (d : Ro) (u : Str) : Bool := d.ds.any fun p => p.ps.contains u
/-- a Rollout at a -/
def RoAt (K : PySem.W.Frag) (H : Hp) (a : Addr) (ws ps bs : List V) (fa : Addr) (d : Ro) : Prop := ∃ (dx t1 t2 t3 : Addr), H a = some (.ins (ga K "Rollout") dx [("writers", .ref t1), ("fill", .ref fa), ("phases", .ref t2), ("workers", .int d.wk), ("hands", .int d.hd), ("back", .ref t3), ("counts", .bl (d.has "once")), ("keeps", .bl (d.has "kept"))]) ∧
  SqT K H t1 ws ∧ SqT K H t2 ps ∧ SqT K H t3 bs
theorem IsWr.ins {K : PySem.W.Frag} {H H' : Hp} {a C dx : Addr} (ha : H a = some (.ins C dx [])) (e : But a H H') {x : V} : ∀ {r : Option Str}, (∃ z, r = some z) → IsWr K H x r → IsWr K H' x r
  | some z, _, ⟨b, xs, n, ex, d1, t, h1, h2⟩ => ⟨b, xs, n, ex, d1, t, e _ _ (fun q => by rw [q, ha] at h1; cases h1) h1, e _ _ (fun q => by rw [q, ha] at h2; cases h2) h2⟩
  | none, h, _ => by
    obtain ⟨z, h⟩ := h
    cases h
theorem IsPh.ins {K : PySem.W.Frag} {H H' : Hp} {a C dx : Addr} (ha : H a = some (.ins C dx [])) (e : But a H H') {x : V} : ∀ {r : Option Ph}, (∃ z, r = some z) → IsPh K H x r → IsPh K H' x r
  | some d, _, ⟨⟨b, ex, d1, t1, t2, t3, h1, a1, a2, a3⟩, l⟩ => ⟨⟨b, ex, d1, t1, t2, t3, e _ _ (fun q => by rw [q, ha] at h1; cases h1) h1, a1.ins ha e, a2.ins ha e, a3.ins ha e⟩, l⟩
  | none, h, _ => by
    obtain ⟨z, h⟩ := h
    cases h
theorem mem_some {α : Type} {l : List α} {i : Nat} {r : Option α} (h : (l.map some)[i]? = some r) : ∃ z, r = some z := by
  rw [List.getElem?_map] at h
  obtain ⟨z, _, rfl⟩ := Option.map_eq_some_iff.mp h
  exact ⟨z, rfl⟩
theorem Each.ph {K : PySem.W.Frag} {H H' : Hp} {a C dx : Addr} (ha : H a = some (.ins C dx [])) (e : But a H H') {xs : List V} {ds : List Ph} (h : Each (IsPh K) H xs (ds.map some)) : Each (IsPh K) H' xs (ds.map some) := ⟨h.1, fun i x q => by
  obtain ⟨r, er, p⟩ := h.2 i x q
  exact ⟨r, er, p.ins ha e (mem_some er)⟩⟩
/-- a list or a tuple with its items told, or neither -/
def isSq {α : Type} (p : Hp → V → α → Prop) (K : PySem.W.Frag) (H : Hp) (x : V) : Option (List V × List α) → Prop
  | some (xs, zs) => ∃ a, x = .ref a ∧ SqV K H a xs ∧ Each p H xs zs ∧ xs.length ≤ 1000
  | none => NoSq K H x
def isFl (K : PySem.W.Frag) (H : Hp) (x : V) : Option Addr → Prop
  | some fa => x = .ref fa ∧ FlK K H fa
  | none => NoC K "Fill" H x
def isIS (K : PySem.W.Frag) (H : Hp) (x : V) (r : Option Int) : Prop := ∀ H', Same H H' → isI K H' x r
theorem all_some {α : Type} : ∀ {zs : List (Option α)}, (∀ z ∈ zs, ∃ y, z = some y) → zs = (zs.filterMap id).map some
  | [], _ => rfl
  | z :: zs, h => by
    obtain ⟨y, rfl⟩ := h z (List.mem_cons_self ..)
    have ih := all_some (zs := zs) fun z hz => h z (List.mem_cons_of_mem _ hz)
    rw [List.filterMap_cons]
    show some y :: zs = some y :: (zs.filterMap id).map some
    rw [← ih]
/-- six parts, right or not -/
structure Bnt where
  w : Option (List V × List (Option Str))
  f : Option Addr
  p : Option (List V × List (Option Ph))
  wk : Option Int
  hd : Option Int
  b : Option (List V × List (Option (Int × Int)))
def Bnt.bad2 (t : Bnt) (n : Nat) : Option (Str × Int) := if btwB t.wk 1 2 = true then (if btwB t.hd 0 2 = true then (match t.b with
    | none => some ("back", -1)
    | some (_, rs) => (match badY rs n with
      | some k => some ("back", (k : Int))
      | none => none)) else some ("hands", -1)) else some ("workers", -1)
def Bnt.bad1 (t : Bnt) (kn : List Str) : Option (Str × Int) := match t.f with
  | none => some ("fill", -1)
  | some _ => (match t.p with
    | none => some ("phases", -1)
    | some (ps, ds) => if 1 ≤ ps.length ∧ ps.length ≤ 6 then (match badP ds kn with
      | some k => some ("phases", (k : Int))
      | none => t.bad2 ps.length) else some ("phases", -1))
/-- what is told of them -/
def Bnt.bad (t : Bnt) : Option (Str × Int) := match t.w with
  | none => some ("writers", -1)
  | some (ws, zs) => if 1 ≤ ws.length ∧ ws.length ≤ 4 then (match badN zs with
    | some k => some ("writers", (k : Int))
    | none => t.bad1 (zs.filterMap id)) else some ("writers", -1)
/-- the parts of d -/
structure Bnt.Is (t : Bnt) (ws ps bs : List V) (fa : Addr) (d : Ro) : Prop where
  w : t.w = some (ws, d.zs.map some)
  f : t.f = some fa
  p : t.p = some (ps, d.ds.map some)
  wk : t.wk = some d.wk
  hd : t.hd = some d.hd
  b : t.b = some (bs, d.rs.map some)
structure BntAt (K : PySem.W.Frag) (H : Hp) (x0 x1 x2 x3 x4 x5 : V) (t : Bnt) : Prop where
  w : isSq (IsWr K) K H x0 t.w
  f : isFl K H x1 t.f
  p : isSq (IsPh K) K H x2 t.p
  wk : isIS K H x3 t.wk
  hd : isIS K H x4 t.hd
  b : isSq (WyO K) K H x5 t.b
def Rno (K : PySem.W.Frag) (E : XK) (H : Hp) (u : Str) (i : Int) : Prop := ∀ (d : Addr) (H' : Hp), H d = none → Same H H' → H' d = some (.xd [("index", .int i), ("part", .str u)]) → E (.ref (ga K "NoRollout")) (some d) H'
def spRoI (K : PySem.W.Frag) : Sp := fun vs H Q E => ∃ (a dx : Addr) (x0 x1 x2 x3 x4 x5 : V) (t : Bnt), vs = [.ref a, x0, x1, x2, x3, x4, x5] ∧ H a = some (.ins (ga K "Rollout") dx []) ∧ BntAt K H x0 x1 x2 x3 x4 x5 t ∧
  (∀ u i, t.bad = some (u, i) → Rno K E H u i) ∧ (∀ (ws ps bs : List V) (fa : Addr) (d : Ro), t.Is ws ps bs fa d → d.Ok → ∀ H', But a H H' → RoAt K H' a ws ps bs fa d → Q .non H')
theorem badN_all {zs : List (Option Str)} (h : badN zs = none) : ∃ ys : List Str, zs = ys.map some := by
  have all : ∀ k, k < zs.length → okN zs k = true := by
    unfold badN at h
    rw [List.find?_eq_none] at h
    intro k l
    have := h k (List.mem_range.mpr l)
    simpa using this
  refine ⟨zs.filterMap id, ?_⟩
  have : ∀ z ∈ zs, ∃ y, z = some y := fun z hz => by
    obtain ⟨k, l, e⟩ := List.mem_iff_getElem.mp hz
    have o := all k l
    unfold okN at o
    rw [List.getElem?_eq_getElem l, e] at o
    match z, o with
    | some y, _ => exact ⟨y, rfl⟩
  exact all_some this
theorem badP_all {zs : List (Option Ph)} {kn : List Str} (h : badP zs kn = none) : ∃ ys : List Ph, zs = ys.map some := by
  have all : ∀ k, k < zs.length → okP zs kn k = true := by
    unfold badP at h
    rw [List.find?_eq_none] at h
    intro k l
    have := h k (List.mem_range.mpr l)
    simpa using this
  refine ⟨zs.filterMap id, ?_⟩
  have : ∀ z ∈ zs, ∃ y, z = some y := fun z hz => by
    obtain ⟨k, l, e⟩ := List.mem_iff_getElem.mp hz
    have o := all k l
    unfold okP at o
    rw [List.getElem?_eq_getElem l, e] at o
    match z, o with
    | some y, _ => exact ⟨y, rfl⟩
  exact all_some this
theorem badY_all {zs : List (Option (Int × Int))} {n : Int} (h : badY zs n = none) : ∃ ys : List (Int × Int), zs = ys.map some := by
  have all : ∀ k, k < zs.length → okY zs n k = true := by
    unfold badY at h
    rw [List.find?_eq_none] at h
    intro k l
    have := h k (List.mem_range.mpr l)
    simpa using this
  refine ⟨zs.filterMap id, ?_⟩
  have : ∀ z ∈ zs, ∃ y, z = some y := fun z hz => by
    obtain ⟨k, l, e⟩ := List.mem_iff_getElem.mp hz
    have o := all k l
    unfold okY at o
    rw [List.getElem?_eq_getElem l, e] at o
    match z, o with
    | some y, _ => exact ⟨y, rfl⟩
  exact all_some this
theorem btw_some {r : Option Int} {lo hi : Int} (h : btwB r lo hi = true) : ∃ i, r = some i ∧ lo ≤ i ∧ i ≤ hi := by
  cases r with
  | none => cases h
  | some i =>
    unfold btwB at h
    simp only [Bool.and_eq_true, decide_eq_true_eq] at h
    exact ⟨i, rfl, h.1, h.2⟩
theorem isI_some {K : PySem.W.Frag} {H : Hp} {x : V} {i : Int} (h : isI K H x (some i)) : x = .int i := by
  rcases h with ⟨j, e, ej⟩ | ⟨_, e⟩
  · cases ej
    exact e
  · cases e
section
variable {P : Program} {w : World} {K : PySem.W.Frag} {mg : Str → Option Value} {base : Heap} {f : Addr} {fd : FuncData}
theorem scNoR : FnScope ["self", "part", "index"] ["self", "part", "index"] (defScope sNoR) := ⟨rfl, rfl, rfl, by decide +kernel, rfl, by decide +kernel, by decide +kernel⟩
theorem okNoR (F : FnM K "__init__" "NoRollout.__init__" 6 0 f fd) : FnOk P w K mg base CX0 1 f fd ["self", "part", "index"] (spIni K ["part", "index"]) := by
  refine F.ok scNoR (fun vs H Q E h => ?_) (fun cdv A outer s H vs Q E hr h => ?_)
  · obtain ⟨a, C, v, u, rfl, _⟩ := ini2 h
    rfl
  refine ⟨_, PSs.nox (pss_cons (ps_ost (pv 0) (pv 1)) (pss_one (ps_ost (pv 0) (pv 2)))), ?_⟩
  obtain ⟨a, C, v, u, rfl, T, no, no2, ha, k⟩ := ini2 h
  refine ⟨_, rfl, _, rfl, a, C, rfl, T, no, .inl ⟨ha, fun dx n ne => ?_⟩⟩
  exact ⟨_, rfl, _, rfl, a, C, rfl, T, no2, .inr ⟨dx, _, upd_same, (upd_ne ne).trans upd_same, (show 1 ≤ 900 by decide), k dx n ne⟩⟩
theorem bNoR (F : FnM K "__init__" "NoRollout.__init__" 6 0 f fd) : Binds K fd ["self", "part", "index"] [] := FunD.bindsN F fun _ _ _ _ _ _ us hl => match us, hl with | [_, _, _], _ => rfl
abbrev nRoI : List Str := ["self", "writers", "fill", "phases", "workers", "hands", "back", "wrong", "writer", "phase"]
abbrev pRoI : List Str := ["self", "writers", "fill", "phases", "workers", "hands", "back"]
theorem scRoI : FnScope nRoI pRoI (defScope sRoI) := ⟨rfl, rfl, rfl, by decide +kernel, rfl, by decide +kernel, by decide +kernel⟩
end
end K09

set_option maxRecDepth 100000
set_option maxHeartbeats 4000000
namespace K09
open PySem PySem.Spec PyProof.Rows L2 He VH RZ
/-! Rollout.__init__ -/
section
variable {P : Program} {w : World} {K : PySem.W.Frag} {mg : Str → Option Value} {base : Heap} {f : Addr} {fd : FuncData}
theorem some_len {α : Type} {xs : List V} {l : List α} {H : Hp} {p : Hp → V → Option α → Prop} (h : Each p H xs (l.map some)) : xs.length = l.length := by
  have := h.1
  rwa [List.length_map] at this
/-- [writer.name for writer in writers] -/
theorem rd_wnames (T : Txt K mg w) {σ : L2.St} {H : Hp} {a : Addr} {xs : List V} {zs : List Str} {Q : VK} (h1 : σ[1]? = some (some (.ref a))) (l8 : σ.length = 10) (hv : SqV K H a xs) (he : Each (IsWr K) H xs (zs.map some)) (lx : xs.length ≤ 1000)
    (k : ∀ (D : Addr) (G : Hp), Same H G → G D = some (.lst (zs.map V.str)) → Q (.ref D) G) :
    tLc (iOr (iList K (tVar 1)) (iTup K (tVar 1))) (gName 8) tYes (tFld K (tVar 8) "name") [8] σ H Q := by
  have big : 1000 < sizeLine := by decide
  have ll := some_len he
  match σ, l8 with
  | [v0, v1, v2, v3, v4, v5, v6, v7, v8, v9], _ =>
  refine lc_sqv (j := 1) (xs := xs) h1 hv (fun D i G => Same H G ∧ H D = none ∧ G D = some (.lst ((zs.take i).map V.str))) (fun D i G p => p.1) (fun D nD => ⟨Same.new nD, nD, upd_same⟩) (fun D i x G nD hx p => ?_) (fun D G p => ?_)
  · obtain ⟨sG, _, hD⟩ := p
    obtain ⟨r, er, hr⟩ := he.2 i x hx
    obtain ⟨z, rfl⟩ := mem_some er
    have ez : zs[i]? = some z := by
      rw [List.getElem?_map] at er
      obtain ⟨y, e1, e2⟩ := Option.map_eq_some_iff.mp er
      cases e2
      exact e1
    obtain ⟨wa, ys, b, rfl, dx, t, hw, _⟩ := hr.same sG
    refine ⟨rfl, _, rfl, wa, _, dx, _, _, rfl, hw, T.c_Writer, T.n_Writer_name, rfl, _, hD, ?_, same_put sG nD, nD, ?_⟩
    · rw [List.length_map, List.length_take]
      omega
    · rw [upd_same, List.take_succ, ez]
      simp
  · obtain ⟨sG, _, hD⟩ := p
    rw [ll, List.take_length] at hD
    exact k D G sG hD
theorem in_strs {u : Str} {ws : List Str} : inV (.str u) (ws.map V.str) = ws.contains u := by
  induction ws with
  | nil => rfl
  | cons w ws ih =>
    rw [List.contains_cons]
    show ((w == u) || inV (.str u) (ws.map V.str)) = _
    rw [ih]
    congr 1
    by_cases e : w = u
    · subst e; simp
    · rw [beq_eq_false_iff_ne.mpr e, beq_eq_false_iff_ne.mpr (fun z => e z.symm)]
/-- [word in phase.promises for phase in phases] -/
theorem rd_proms (T : Txt K mg w) {u : Str} {σ : L2.St} {H : Hp} {a : Addr} {xs : List V} {ds : List Ph} {Q : VK} (h1 : σ[3]? = some (some (.ref a))) (l8 : σ.length = 10) (hv : SqV K H a xs) (he : Each (IsPh K) H xs (ds.map some)) (lx : xs.length ≤ 1000)
    (k : ∀ (D : Addr) (G : Hp), Same H G → G D = some (.lst ((ds.map fun d => d.ps.contains u).map V.bl)) → Q (.ref D) G) :
    tLc (iOr (iList K (tVar 3)) (iTup K (tVar 3))) (gName 9) tYes (tOp (rIn K false) (tC (.str u)) (tFld K (tVar 9) "promises")) [9] σ H Q := by
  have big : 1000 < sizeLine := by decide
  have ll := some_len he
  match σ, l8 with
  | [v0, v1, v2, v3, v4, v5, v6, v7, v8, v9], _ =>
  refine lc_sqv (j := 3) (xs := xs) h1 hv (fun D i G => Same H G ∧ G D = some (.lst (((ds.take i).map fun d => d.ps.contains u).map V.bl))) (fun D i G p => p.1) (fun D nD => ⟨Same.new nD, upd_same⟩) (fun D i x G nD hx p => ?_) (fun D G p => ?_)
  · obtain ⟨sG, hD⟩ := p
    have li := (List.getElem?_eq_some_iff.mp hx).1
    obtain ⟨r, er, hr⟩ := he.2 i x hx
    obtain ⟨d, rfl⟩ := mem_some er
    obtain ⟨⟨pa, rfl, dx, t1, t2, t3, hp, _, a2, _⟩, _⟩ := hr.same sG
    have ed : ds[i]? = some d := by
      rw [List.getElem?_map] at er
      obtain ⟨y, e1, e2⟩ := Option.map_eq_some_iff.mp er
      cases e2
      exact e1
    refine ⟨rfl, _, rfl, pa, _, dx, _, _, rfl, hp, T.c_Phase, T.n_Phase_promises, rfl, t2, _, rfl, .inr a2, rfl, flat_strs, _, hD, ?_, same_put sG nD, ?_⟩
    · rw [List.length_map, List.length_map, List.length_take]
      omega
    · rw [upd_same, List.take_succ, ed, in_strs]
      simp
  · obtain ⟨sG, hD⟩ := p
    rw [ll, List.take_length] at hD
    exact k D G sG hD
theorem ok_roI (F : FnRoI K fd) (T : Txt K mg w) (fns : Fns K) : FnOk P w K mg base (L2.CX P w) 5 (ma K (ga K "Rollout") "__init__") fd pRoI (spRoI K) := by
  obtain ⟨dI, FI⟩ := fns.f_is_integer
  obtain ⟨dB, FB⟩ := fns.f_is_between
  obtain ⟨dQ, FQ⟩ := fns.f_is_sequence
  obtain ⟨dZ, FZ⟩ := fns.f_is_sized
  obtain ⟨dY, FY⟩ := fns.f_is_way
  obtain ⟨d1, F1⟩ := fns.f_wrong_writer
  obtain ⟨d2, F2⟩ := fns.f_wrong_phase
  obtain ⟨d3, F3⟩ := fns.f_wrong_way
  obtain ⟨dX, FX⟩ := fns.f_NoRollout_init
  have GB : FnOk P w K mg base CX0 2 (ga K "is_between") dB ["value", "least", "most"] (spBtw K) := ok_btw FB T FI
  have GQ : FnOk P w K mg base CX0 1 (ga K "is_sequence") dQ ["value"] (spSeq K) := ok_seq FQ T
  have GZ : FnOk P w K mg base CX0 2 (ga K "is_sized") dZ ["value", "least", "most"] (spSiz K) := ok_siz FZ T FQ
  have G1 : FnOk P w K mg base CX0 1 (ga K "wrong_writer") d1 ["writers"] (spWw K) := ok_ww F1 T
  have G2 : FnOk P w K mg base CX0 1 (ga K "wrong_phase") d2 ["phases", "known"] (spWp K) := ok_wp F2 T
  have G3 : FnOk P w K mg base CX0 4 (ga K "wrong_way") d3 ["back", "many"] (spWy K) := ok_wy F3 T FY FB FI
  refine F.ok scRoI (fun vs H Q E h => ?_) (fun cdv A outer s H vs Q E hr h => ?_)
  · obtain ⟨_, _, _, _, _, _, _, _, _, rfl, _⟩ := h
    rfl
  have rN : ∀ {p1 p2 p3 p4 p5 p6 : Pos} {j j2 : Nat} {wd : Str}, PS (cxOf (L2.CX P w) P w K mg base nRoI "Rollout.__init__" (defScope sRoI) (ma K (ga K "Rollout") "__init__") cdv A outer s H E) (.Raise (some (.Call (.Name "NoRollout" p1) [.Constant (.str wd) j p2, .UnaryOp .USub (.Constant (.int 1) j2 p5) p6] [] p3)) none p4) _ := fun {p1 p2 p3 p4 p5 p6 j j2 wd} =>
    ps_raise rfl (takes_of rfl rfl rfl rfl) (pmk_oex T.x_NoRollout.mkx.toOexC T.x_NoRollout.mkx.ini T.x_NoRollout.mkx.tyI (okNoR FX) (hr.mono (by decide)) (bNoR FX) .nil pass0 (by rfl) T.m_NoRollout (pa_cons pe_str (pa_cons (pe_un un_neg pe_int) pa_nil)))
  have rW : ∀ {p1 p2 p3 p4 p5 : Pos} {j : Nat} {wd : Str}, PS (cxOf (L2.CX P w) P w K mg base nRoI "Rollout.__init__" (defScope sRoI) (ma K (ga K "Rollout") "__init__") cdv A outer s H E) (.Raise (some (.Call (.Name "NoRollout" p1) [.Constant (.str wd) j p2, .Name "wrong" p5] [] p3)) none p4) _ := fun {p1 p2 p3 p4 p5 j wd} =>
    ps_raise rfl (takes_of rfl rfl rfl rfl) (pmk_oex T.x_NoRollout.mkx.toOexC T.x_NoRollout.mkx.ini T.x_NoRollout.mkx.tyI (okNoR FX) (hr.mono (by decide)) (bNoR FX) .nil pass0 (by rfl) T.m_NoRollout (pa_cons pe_str (pa_cons (pv 7) pa_nil)))
  refine ⟨_, pss_cons (ps_if (pt_not (pt_val (pe_call GZ (hr.mono (by decide)) (by rfl) T.m_is_sized FZ.kp (bSiz FZ) .nil pass0 (pa_cons (pv 1) (pa_cons pe_int (pa_cons pe_int pa_nil)))))) (pss_one rN) pss_nil)
    (pss_cons (ps_set (i := 7) scRoI.nd rfl (Or.inl rfl) (pe_call G1 (hr.mono (by decide)) (by rfl) T.m_wrong_writer F1.kp (bWw F1) .nil pass0 (pa_cons (pv 1) pa_nil)))
    (pss_cons (ps_if (pt_cmpR op_notN (pv 7) pe_non (nomark _)) (pss_one rW) pss_nil)
    (pss_cons (ps_if (pt_not (pt_val (pe_callB call_isi (by rfl) T.g_isinstance boot_isinstance (pa_cons (pv 2) (pa_cons (pe_glob (v := .ref (ga K "Fill")) (by rfl) T.m_Fill rfl) pa_nil))))) (pss_one rN) pss_nil)
    (pss_cons (ps_if (pt_not (pt_val (pe_call GZ (hr.mono (by decide)) (by rfl) T.m_is_sized FZ.kp (bSiz FZ) .nil pass0 (pa_cons (pv 3) (pa_cons pe_int (pa_cons pe_int pa_nil)))))) (pss_one rN) pss_nil)
    (pss_cons (ps_set (i := 7) scRoI.nd rfl (Or.inl rfl) (pe_call G2 (hr.mono (by decide)) (by rfl) T.m_wrong_phase F2.kp (bWp F2) .nil pass0 (pa_cons (pv 3) (pa_cons (pe_lc (own := [("writer", 8)]) (g := gName 8) (tt := tYes) (te := tFld K (tVar 8) "name") rfl scRoI.nd (pi_or (pi_list (pv 1)) (pi_tup (pv 1))) (blkOk_by (N := nRoI) (sc := defScope sRoI) (by decide +kernel))
          (fun _ _ _ _ _ => pg_name (i := 8) scRoI.nd rfl (Or.inl rfl)) (fun _ _ _ _ _ => pts_nil) (fun _ _ _ _ _ => pe_fld (pv 8) (by rfl))) pa_nil))))
    (pss_cons (ps_if (pt_cmpR op_notN (pv 7) pe_non (nomark _)) (pss_one rW) pss_nil)
    (pss_cons (ps_if (pt_not (pt_val (pe_call GB (hr.mono (by decide)) (by rfl) T.m_is_between FB.kp (bBtw FB) .nil pass0 (pa_cons (pv 4) (pa_cons pe_int (pa_cons pe_int pa_nil)))))) (pss_one rN) pss_nil)
    (pss_cons (ps_if (pt_not (pt_val (pe_call GB (hr.mono (by decide)) (by rfl) T.m_is_between FB.kp (bBtw FB) .nil pass0 (pa_cons (pv 5) (pa_cons pe_int (pa_cons pe_int pa_nil)))))) (pss_one rN) pss_nil)
    (pss_cons (ps_if (pt_not (pt_val (pe_call GQ (hr.mono (by decide)) (by rfl) T.m_is_sequence FQ.kp (bSeq FQ) .nil pass0 (pa_cons (pv 6) pa_nil)))) (pss_one rN) pss_nil)
    (pss_cons (ps_set (i := 7) scRoI.nd rfl (Or.inl rfl) (pe_call G3 (hr.mono (by decide)) (by rfl) T.m_wrong_way F3.kp (bWy F3) .nil pass0 (pa_cons (pv 6) (pa_cons (pe_callB call_len_seq (by rfl) T.g_len boot_len (pa_cons (pv 3) pa_nil)) pa_nil))))
    (pss_cons (ps_if (pt_cmpR op_notN (pv 7) pe_non (nomark _)) (pss_one rW) pss_nil)
    (pss_cons (ps_fld (pv 0) (pe_callTy call_tupS (by rfl) T.g_tuple boot_tuple (pa_cons (pv 1) pa_nil)) rfl)
    (pss_cons (ps_fld (pv 0) (pv 2) rfl)
    (pss_cons (ps_fld (pv 0) (pe_callTy call_tupS (by rfl) T.g_tuple boot_tuple (pa_cons (pv 3) pa_nil)) rfl)
    (pss_cons (ps_fld (pv 0) (pv 4) rfl)
    (pss_cons (ps_fld (pv 0) (pv 5) rfl)
    (pss_cons (ps_fld (pv 0) (pe_callTy call_tupS (by rfl) T.g_tuple boot_tuple (pa_cons (pv 6) pa_nil)) rfl)
    (pss_cons (ps_fld (pv 0) (pe_callB (cr_any rfl) (by rfl) T.g_any boot_any (pa_cons (pe_lc (own := [("phase", 9)]) (g := gName 9) (tt := tYes) (te := tOp (rIn K false) (tC (.str "once")) (tFld K (tVar 9) "promises")) rfl scRoI.nd (pi_or (pi_list (pv 3)) (pi_tup (pv 3))) (blkOk_by (N := nRoI) (sc := defScope sRoI) (by decide +kernel))
          (fun _ _ _ _ _ => pg_name (i := 9) scRoI.nd rfl (Or.inl rfl)) (fun _ _ _ _ _ => pts_nil) (fun _ _ _ _ _ => pe_cmpR op_in_seq pe_str (pe_fld (pv 9) (by rfl)) (by rfl))) pa_nil)) rfl)
    (pss_one (ps_fld (pv 0) (pe_callB (cr_any rfl) (by rfl) T.g_any boot_any (pa_cons (pe_lc (own := [("phase", 9)]) (g := gName 9) (tt := tYes) (te := tOp (rIn K false) (tC (.str "kept")) (tFld K (tVar 9) "promises")) rfl scRoI.nd (pi_or (pi_list (pv 3)) (pi_tup (pv 3))) (blkOk_by (N := nRoI) (sc := defScope sRoI) (by decide +kernel))
          (fun _ _ _ _ _ => pg_name (i := 9) scRoI.nd rfl (Or.inl rfl)) (fun _ _ _ _ _ => pts_nil) (fun _ _ _ _ _ => pe_cmpR op_in_seq pe_str (pe_fld (pv 9) (by rfl)) (by rfl))) pa_nil)) rfl)))))))))))))))))))), ?_⟩
  obtain ⟨a, dx, x0, x1, x2, x3, x4, x5, t, rfl, ha, ⟨h0, h1, h2, h3, h4, h5⟩, kr, k⟩ := h
  have go : ∀ {G : Hp} {u : Str} {i : Int}, Same H G → t.bad = some (u, i) → ([V.str u, V.int i].length ≤ 1000 ∧ ∀ p, G p = none → spIni K ["part", "index"] [.ref p, .str u, .int i] (upd G p (exo p (ga K "NoRollout") none)) (fun v H2 => v = .non ∧ ∃ (d : Addr) (fs : List (Str × V)), H2 p = some (exo p (ga K "NoRollout") (some d)) ∧ H2 d = some (exd d fs) ∧ G d = none ∧ E (.ref (ga K "NoRollout")) (some d) (upd (del H2 p) d (.xd fs))) (fun _ _ _ => False)) :=
    fun {G u i} S e => ⟨(show 2 ≤ 1000 by decide), fun p n => read_raise T.x_NoRollout [.str u, .int i] n rfl rfl (by simp) rfl fun d H' nd s e' => kr u i e d H' (S.free nd) (S.trans s) e'⟩
  clear kr
  obtain ⟨tw, tf, tp, twk, thd, tb⟩ := t
  simp only at h0 h1 h2 h3 h4 h5
  have S00 : Same H H := fun _ _ h => h
  -- writers
  match tw, h0 with
  | none, h0 => exact ⟨_, rfl, _, _, _, rfl, .inr ⟨h0, fun G S => ⟨false, rfl, iteT ⟨1, rfl, go S rfl⟩⟩⟩⟩
  | some (ws, zs), h0 =>
  obtain ⟨aw, rfl, hw, pw, lw⟩ := h0
  by_cases sz : 1 ≤ ws.length ∧ ws.length ≤ 4
  case neg =>
    refine ⟨_, rfl, _, _, _, rfl, .inl ⟨aw, ws, rfl, hw, fun G S => ⟨false, ?_, iteT ⟨1, rfl, go S (by unfold Bnt.bad; exact if_neg sz)⟩⟩⟩⟩
    congr 1
    rw [Bool.and_eq_false_iff, decide_eq_false_iff_not, decide_eq_false_iff_not]
    omega
  obtain ⟨z1, z4⟩ := sz
  refine ⟨_, rfl, _, _, _, rfl, .inl ⟨aw, ws, rfl, hw, fun H1 S1 => ⟨true, ?_, iteF ?_⟩⟩⟩
  · rw [decide_eq_true (show (1 : Int) ≤ (ws.length : Nat) by omega), decide_eq_true (show ((ws.length : Nat) : Int) ≤ 4 by omega)]
    rfl
  refine ⟨_, rfl, aw, ws, zs, rfl, hw.same S1, pw.same (fun _ _ h => h.same S1), by omega, fun H2 S2 => ?_⟩
  have S02 := S1.trans S2
  cases zn : badN zs with
  | some kk => exact ⟨_, rfl, rfl, _, rfl, iteT ⟨_, rfl, go S02 (by unfold Bnt.bad; show (if 1 ≤ ws.length ∧ ws.length ≤ 4 then (match badN zs with | some k => some (("writers" : Str), (k : Int)) | none => _) else _) = _; rw [if_pos ⟨z1, z4⟩, zn])⟩⟩
  | none =>
  obtain ⟨ys, rfl⟩ := badN_all zn
  have sb : ∀ t : Bnt, t.w = some (ws, ys.map some) → t.bad = t.bad1 ys := fun t e => by
    unfold Bnt.bad
    rw [e]
    show (if _ then _ else _) = _
    rw [if_pos ⟨z1, z4⟩, zn]
    show t.bad1 ((ys.map some).filterMap id) = _
    rw [List.filterMap_map]
    show t.bad1 (ys.filterMap some) = _
    rw [List.filterMap_some]
  refine ⟨_, rfl, rfl, _, rfl, iteF ?_⟩
  -- fill
  match tf, h1 with
  | none, h1 =>
    obtain ⟨ty, ht, kt⟩ := h1 _ S02
    exact ⟨_, rfl, _, _, _, _, false, rfl, .own (ga K "Fill"), ht, kt, false, rfl, iteT ⟨1, rfl, go S02 (by rw [sb _ rfl]; rfl)⟩⟩
  | some af, h1 =>
  obtain ⟨rfl, pf⟩ := h1
  have pf0 := pf
  obtain ⟨fp, fe, fs, ⟨fx, hf⟩, _⟩ := pf
  refine ⟨_, rfl, _, _, _, _, true, rfl, .own (ga K "Fill"), .base (.ins (S02 _ _ hf) T.c_Fill T.o_Fill.cls T.dc1 T.dc2 T.o_Fill.mro), T.o_Fill.kk, true, rfl, iteF ?_⟩
  -- phases
  match tp, h2 with
  | none, h2 => exact ⟨_, rfl, _, _, _, rfl, .inr ⟨NoSq.same h2 S02, fun G S => ⟨false, rfl, iteT ⟨1, rfl, go (S02.trans S) (by rw [sb _ rfl]; rfl)⟩⟩⟩⟩
  | some (ps, ds), h2 =>
  obtain ⟨ap, rfl, hp, pp, lp⟩ := h2
  by_cases sz : 1 ≤ ps.length ∧ ps.length ≤ 6
  case neg =>
    refine ⟨_, rfl, _, _, _, rfl, .inl ⟨ap, ps, rfl, hp.same S02, fun G S => ⟨false, ?_, iteT ⟨1, rfl, go (S02.trans S) (by rw [sb _ rfl]; unfold Bnt.bad1; exact if_neg sz)⟩⟩⟩⟩
    congr 1
    rw [Bool.and_eq_false_iff, decide_eq_false_iff_not, decide_eq_false_iff_not]
    omega
  obtain ⟨p1, p6⟩ := sz
  refine ⟨_, rfl, _, _, _, rfl, .inl ⟨ap, ps, rfl, hp.same S02, fun H3 S3 => ⟨true, ?_, iteF ?_⟩⟩⟩
  · rw [decide_eq_true (show (1 : Int) ≤ (ps.length : Nat) by omega), decide_eq_true (show ((ps.length : Nat) : Int) ≤ 6 by omega)]
    rfl
  have S03 := S02.trans S3
  refine ⟨_, rfl, rd_wnames (a := aw) (xs := ws) (zs := ys) T rfl rfl (hw.same S03) (pw.same (fun _ _ h => h.same S03)) (by omega) fun D H4 S4 hD => ?_⟩
  have S04 := S03.trans S4
  refine ⟨ap, D, ps, ds, ys, rfl, hp.same S04, pp.same (fun _ _ h => h.same S04), by omega, .inl (SqL.of hD), fun H5 S5 => ?_⟩
  have S05 := S04.trans S5
  cases pn : badP ds ys with
  | some kk => exact ⟨_, rfl, rfl, _, rfl, iteT ⟨_, rfl, go S05 (by rw [sb _ rfl]; unfold Bnt.bad1; show (if _ then _ else _) = _; rw [if_pos ⟨p1, p6⟩, pn])⟩⟩
  | none =>
  obtain ⟨es, rfl⟩ := badP_all pn
  have sb2 : ∀ t : Bnt, t.w = some (ws, ys.map some) → t.f = some af → t.p = some (ps, es.map some) → t.bad = t.bad2 ps.length := fun t e0 e1 e2 => by
    rw [sb t e0]
    unfold Bnt.bad1
    rw [e1, e2]
    show (if _ then _ else _) = _
    rw [if_pos ⟨p1, p6⟩, pn]
  refine ⟨_, rfl, rfl, _, rfl, iteF ?_⟩
  -- workers, hands
  cases bw : btwB twk 1 2 with
  | false => exact ⟨_, rfl, x3, 1, 2, twk, rfl, h3 _ S05, false, by rw [bw], iteT ⟨1, rfl, go S05 (by rw [sb2 _ rfl rfl rfl]; unfold Bnt.bad2; exact if_neg (by rw [bw]; simp))⟩⟩
  | true =>
  refine ⟨_, rfl, x3, 1, 2, twk, rfl, h3 _ S05, true, by rw [bw], iteF ?_⟩
  cases bh : btwB thd 0 2 with
  | false => exact ⟨_, rfl, x4, 0, 2, thd, rfl, h4 _ S05, false, by rw [bh], iteT ⟨1, rfl, go S05 (by rw [sb2 _ rfl rfl rfl]; unfold Bnt.bad2; rw [if_pos bw, if_neg (by rw [bh]; simp)])⟩⟩
  | true =>
  refine ⟨_, rfl, x4, 0, 2, thd, rfl, h4 _ S05, true, by rw [bh], iteF ?_⟩
  obtain ⟨wk, rfl, w1, w2⟩ := btw_some bw
  obtain ⟨hd, rfl, hd0, hd2⟩ := btw_some bh
  obtain rfl := isI_some (h3 _ S05)
  obtain rfl := isI_some (h4 _ S05)
  have sb3 : ∀ t : Bnt, t.w = some (ws, ys.map some) → t.f = some af → t.p = some (ps, es.map some) → t.wk = some wk → t.hd = some hd → t.bad = match t.b with
      | none => some ("back", -1)
      | some (_, rs) => (match badY rs (ps.length : Nat) with
        | some k => some ("back", (k : Int))
        | none => none) := fun t e0 e1 e2 e3 e4 => by
    rw [sb2 t e0 e1 e2]
    unfold Bnt.bad2
    rw [e3, e4, if_pos bw, if_pos bh]
    try rfl
  -- back
  match tb, h5 with
  | none, h5 => exact ⟨_, rfl, _, rfl, .inr ⟨NoSq.same h5 S05, fun G S => ⟨false, rfl, iteT ⟨1, rfl, go (S05.trans S) (by rw [sb3 _ rfl rfl rfl rfl rfl])⟩⟩⟩⟩
  | some (bs, rs), h5 =>
  obtain ⟨ab, rfl, hb, pb, lb⟩ := h5
  refine ⟨_, rfl, _, rfl, .inl ⟨ab, bs, rfl, hb.same S05, fun H6 S6 => ⟨true, rfl, iteF ?_⟩⟩⟩
  have S06 := S05.trans S6
  refine ⟨_, rfl, _, rfl, ap, ps, rfl, hp.same S06, ab, bs, rs, ((ps.length : Nat) : Int), rfl, hb.same S06, pb.same (fun _ _ h => h.same S06), by omega, fun H7 S7 => ?_⟩
  have S07 := S06.trans S7
  cases bn : badY rs ((ps.length : Nat) : Int) with
  | some kk => exact ⟨_, rfl, rfl, _, rfl, iteT ⟨_, rfl, go S07 (by rw [sb3 _ rfl rfl rfl rfl rfl]; show (match badY rs (ps.length : Nat) with | some k => some (("back" : Str), (k : Int)) | none => none) = _; rw [bn])⟩⟩
  | none =>
  obtain ⟨qs, rfl⟩ := badY_all bn
  refine ⟨_, rfl, rfl, _, rfl, iteF ?_⟩
  have ld := some_len pp
  have lz := some_len pw
  have lq := some_len pb
  have k := k ws ps bs af ⟨ys, es, wk, hd, qs⟩ ⟨rfl, rfl, rfl, rfl, rfl, rfl⟩ ⟨by show 1 ≤ ys.length; omega, by show ys.length ≤ 4; omega, zn, by show 1 ≤ es.length; omega, by show es.length ≤ 6; omega, pn, w1, w2, hd0, hd2, by show qs.length ≤ 1000; omega, by show badY (qs.map some) (es.length : Nat) = none; rw [← ld]; exact bn⟩
  clear go sb sb2 sb3 zn pn bn h3 h4 pb S00
  clear S1 S2 S3 S4 S5 S6 S7 S02 S03 S04 S05 S06 hD rN rW bw bh
  have B7 : But a H H7 := But.of S07
  have ha7 := S07 _ _ ha
  -- the fields
  refine ⟨_, rfl, aw, ws, rfl, hw.same S07, fun t1 G1 T1 q1 => ?_⟩
  refine ⟨_, rfl, a, _, dx, _, rfl, T1 _ _ ha7, T.c_Rollout, T.n_Rollout_writers, (show 0 < 1000 by decide), ?_⟩
  have e1 : But a G1 (upd G1 a (.ins (ga K "Rollout") dx [("writers", .ref t1)])) := But.upd
  have B := (B7.trans (But.of T1)).trans e1
  have q1 := q1.ins (T1 _ _ ha7) e1
  have hg : upd G1 a (.ins (ga K "Rollout") dx [("writers", .ref t1)]) a = some (.ins (ga K "Rollout") dx [("writers", .ref t1)]) := upd_same
  clear e1 T1 ha7 B7 S07
  rw [show putF ("writers" : Str) (V.ref t1) ([] : List (Str × V)) = ([("writers", .ref t1)] : List (Str × V)) from rfl]
  generalize upd G1 a (.ins (ga K "Rollout") dx [("writers", .ref t1)]) = G at B q1 hg ⊢
  refine ⟨_, rfl, _, rfl, a, _, dx, _, rfl, hg, T.c_Rollout, T.n_Rollout_fill, (show 1 < 1000 by decide), ?_⟩
  have e1 : But a G (upd G a (.ins (ga K "Rollout") dx [("writers", .ref t1), ("fill", .ref af)])) := But.upd
  have B := B.trans e1
  have q1 := q1.ins hg e1
  have hg : upd G a (.ins (ga K "Rollout") dx [("writers", .ref t1), ("fill", .ref af)]) a = some (.ins (ga K "Rollout") dx [("writers", .ref t1), ("fill", .ref af)]) := upd_same
  clear e1
  rw [show putF ("fill" : Str) (V.ref af) ([("writers", .ref t1)] : List (Str × V)) = ([("writers", .ref t1), ("fill", .ref af)] : List (Str × V)) from rfl]
  generalize upd G a (.ins (ga K "Rollout") dx [("writers", .ref t1), ("fill", .ref af)]) = G at B q1 hg ⊢
  refine ⟨_, rfl, ap, ps, rfl, hp.ins ha B, fun t2 G2 T2 q2 => ?_⟩
  refine ⟨_, rfl, a, _, dx, _, rfl, T2 _ _ hg, T.c_Rollout, T.n_Rollout_phases, (show 2 < 1000 by decide), ?_⟩
  have e1 : But a G2 (upd G2 a (.ins (ga K "Rollout") dx [("writers", .ref t1), ("fill", .ref af), ("phases", .ref t2)])) := But.upd
  have B := (B.trans (But.of T2)).trans e1
  have q1 := (q1.same T2).ins (T2 _ _ hg) e1
  have q2 := q2.ins (T2 _ _ hg) e1
  have hg : upd G2 a (.ins (ga K "Rollout") dx [("writers", .ref t1), ("fill", .ref af), ("phases", .ref t2)]) a = some (.ins (ga K "Rollout") dx [("writers", .ref t1), ("fill", .ref af), ("phases", .ref t2)]) := upd_same
  clear e1 T2
  rw [show putF ("phases" : Str) (V.ref t2) ([("writers", .ref t1), ("fill", .ref af)] : List (Str × V)) = ([("writers", .ref t1), ("fill", .ref af), ("phases", .ref t2)] : List (Str × V)) from rfl]
  generalize upd G2 a (.ins (ga K "Rollout") dx [("writers", .ref t1), ("fill", .ref af), ("phases", .ref t2)]) = G at B q1 q2 hg ⊢
  refine ⟨_, rfl, _, rfl, a, _, dx, _, rfl, hg, T.c_Rollout, T.n_Rollout_workers, (show 3 < 1000 by decide), ?_⟩
  have e1 : But a G (upd G a (.ins (ga K "Rollout") dx [("writers", .ref t1), ("fill", .ref af), ("phases", .ref t2), ("workers", .int wk)])) := But.upd
  have B := B.trans e1
  have q1 := q1.ins hg e1
  have q2 := q2.ins hg e1
  have hg : upd G a (.ins (ga K "Rollout") dx [("writers", .ref t1), ("fill", .ref af), ("phases", .ref t2), ("workers", .int wk)]) a = some (.ins (ga K "Rollout") dx [("writers", .ref t1), ("fill", .ref af), ("phases", .ref t2), ("workers", .int wk)]) := upd_same
  clear e1
  rw [show putF ("workers" : Str) (V.int wk) ([("writers", .ref t1), ("fill", .ref af), ("phases", .ref t2)] : List (Str × V)) = ([("writers", .ref t1), ("fill", .ref af), ("phases", .ref t2), ("workers", .int wk)] : List (Str × V)) from rfl]
  generalize upd G a (.ins (ga K "Rollout") dx [("writers", .ref t1), ("fill", .ref af), ("phases", .ref t2), ("workers", .int wk)]) = G at B q1 q2 hg ⊢
  refine ⟨_, rfl, _, rfl, a, _, dx, _, rfl, hg, T.c_Rollout, T.n_Rollout_hands, (show 4 < 1000 by decide), ?_⟩
  have e1 : But a G (upd G a (.ins (ga K "Rollout") dx [("writers", .ref t1), ("fill", .ref af), ("phases", .ref t2), ("workers", .int wk), ("hands", .int hd)])) := But.upd
  have B := B.trans e1
  have q1 := q1.ins hg e1
  have q2 := q2.ins hg e1
  have hg : upd G a (.ins (ga K "Rollout") dx [("writers", .ref t1), ("fill", .ref af), ("phases", .ref t2), ("workers", .int wk), ("hands", .int hd)]) a = some (.ins (ga K "Rollout") dx [("writers", .ref t1), ("fill", .ref af), ("phases", .ref t2), ("workers", .int wk), ("hands", .int hd)]) := upd_same
  clear e1
  rw [show putF ("hands" : Str) (V.int hd) ([("writers", .ref t1), ("fill", .ref af), ("phases", .ref t2), ("workers", .int wk)] : List (Str × V)) = ([("writers", .ref t1), ("fill", .ref af), ("phases", .ref t2), ("workers", .int wk), ("hands", .int hd)] : List (Str × V)) from rfl]
  generalize upd G a (.ins (ga K "Rollout") dx [("writers", .ref t1), ("fill", .ref af), ("phases", .ref t2), ("workers", .int wk), ("hands", .int hd)]) = G at B q1 q2 hg ⊢
  refine ⟨_, rfl, ab, bs, rfl, hb.ins ha B, fun t3 G3 T3 q3 => ?_⟩
  refine ⟨_, rfl, a, _, dx, _, rfl, T3 _ _ hg, T.c_Rollout, T.n_Rollout_back, (show 5 < 1000 by decide), ?_⟩
  have e1 : But a G3 (upd G3 a (.ins (ga K "Rollout") dx [("writers", .ref t1), ("fill", .ref af), ("phases", .ref t2), ("workers", .int wk), ("hands", .int hd), ("back", .ref t3)])) := But.upd
  have B := (B.trans (But.of T3)).trans e1
  have q1 := (q1.same T3).ins (T3 _ _ hg) e1
  have q2 := (q2.same T3).ins (T3 _ _ hg) e1
  have q3 := q3.ins (T3 _ _ hg) e1
  have hg : upd G3 a (.ins (ga K "Rollout") dx [("writers", .ref t1), ("fill", .ref af), ("phases", .ref t2), ("workers", .int wk), ("hands", .int hd), ("back", .ref t3)]) a = some (.ins (ga K "Rollout") dx [("writers", .ref t1), ("fill", .ref af), ("phases", .ref t2), ("workers", .int wk), ("hands", .int hd), ("back", .ref t3)]) := upd_same
  clear e1 T3
  rw [show putF ("back" : Str) (V.ref t3) ([("writers", .ref t1), ("fill", .ref af), ("phases", .ref t2), ("workers", .int wk), ("hands", .int hd)] : List (Str × V)) = ([("writers", .ref t1), ("fill", .ref af), ("phases", .ref t2), ("workers", .int wk), ("hands", .int hd), ("back", .ref t3)] : List (Str × V)) from rfl]
  generalize upd G3 a (.ins (ga K "Rollout") dx [("writers", .ref t1), ("fill", .ref af), ("phases", .ref t2), ("workers", .int wk), ("hands", .int hd), ("back", .ref t3)]) = G at B q1 q2 q3 hg ⊢
  -- counts
  dsimp only [tSeq, sFld, tCB, tCons, tNil]
  refine rd_proms (u := "once") (σ := [some (.ref a), some (.ref aw), some (.ref af), some (.ref ap), some (.int wk), some (.int hd), some (.ref ab), some .non, none, none]) (a := ap) (xs := ps) (ds := es) T rfl rfl (hp.ins ha B) (pp.ph ha B) (by omega) ?_
  intro D1 G4 S4 hD
  refine ⟨D1, _, rfl, SqL.of hD, ?_⟩
  refine ⟨_, rfl, a, _, dx, _, rfl, S4 _ _ hg, T.c_Rollout, T.n_Rollout_counts, (show 6 < 1000 by decide), ?_⟩
  rw [show (es.map fun d : Ph => d.ps.contains "once").any id = Ro.has ⟨ys, es, wk, hd, qs⟩ "once" by unfold Ro.has; rw [List.any_map]; rfl]
  obtain ⟨c1, hc1⟩ : ∃ c1, c1 = Ro.has ⟨ys, es, wk, hd, qs⟩ "once" := ⟨_, rfl⟩
  rw [← hc1]
  have e1 : But a G4 (upd G4 a (.ins (ga K "Rollout") dx [("writers", .ref t1), ("fill", .ref af), ("phases", .ref t2), ("workers", .int wk), ("hands", .int hd), ("back", .ref t3), ("counts", .bl c1)])) := But.upd
  have B := (B.trans (But.of S4)).trans e1
  have q1 := (q1.same S4).ins (S4 _ _ hg) e1
  have q2 := (q2.same S4).ins (S4 _ _ hg) e1
  have q3 := (q3.same S4).ins (S4 _ _ hg) e1
  have hg : upd G4 a (.ins (ga K "Rollout") dx [("writers", .ref t1), ("fill", .ref af), ("phases", .ref t2), ("workers", .int wk), ("hands", .int hd), ("back", .ref t3), ("counts", .bl c1)]) a = some (.ins (ga K "Rollout") dx [("writers", .ref t1), ("fill", .ref af), ("phases", .ref t2), ("workers", .int wk), ("hands", .int hd), ("back", .ref t3), ("counts", .bl c1)]) := upd_same
  clear e1 S4 hD
  rw [show putF ("counts" : Str) (V.bl c1) ([("writers", .ref t1), ("fill", .ref af), ("phases", .ref t2), ("workers", .int wk), ("hands", .int hd), ("back", .ref t3)] : List (Str × V)) = ([("writers", .ref t1), ("fill", .ref af), ("phases", .ref t2), ("workers", .int wk), ("hands", .int hd), ("back", .ref t3), ("counts", .bl c1)] : List (Str × V)) from rfl]
  generalize upd G4 a (.ins (ga K "Rollout") dx [("writers", .ref t1), ("fill", .ref af), ("phases", .ref t2), ("workers", .int wk), ("hands", .int hd), ("back", .ref t3), ("counts", .bl c1)]) = G at B q1 q2 q3 hg ⊢
  refine rd_proms (u := "kept") (σ := [some (.ref a), some (.ref aw), some (.ref af), some (.ref ap), some (.int wk), some (.int hd), some (.ref ab), some .non, none, none]) (a := ap) (xs := ps) (ds := es) T rfl rfl (hp.ins ha B) (pp.ph ha B) (by omega) ?_
  intro D1 G4 S4 hD
  refine ⟨D1, _, rfl, SqL.of hD, ?_⟩
  refine ⟨_, rfl, a, _, dx, _, rfl, S4 _ _ hg, T.c_Rollout, T.n_Rollout_keeps, (show 7 < 1000 by decide), ?_⟩
  rw [show (es.map fun d : Ph => d.ps.contains "kept").any id = Ro.has ⟨ys, es, wk, hd, qs⟩ "kept" by unfold Ro.has; rw [List.any_map]; rfl]
  subst hc1
  exact k _ ((B.trans (But.of S4)).trans But.upd) ⟨dx, t1, t2, t3, upd_same, (q1.same S4).ins (S4 _ _ hg) But.upd, (q2.same S4).ins (S4 _ _ hg) But.upd, (q3.same S4).ins (S4 _ _ hg) But.upd⟩
end
end K09

set_option maxRecDepth 100000
set_option maxHeartbeats 4000000
/-! len of an own instance with an own __len__. -/
namespace L2
open PySem PySem.Spec PyProof.Rows
section
variable {X : Cx} {CX : CXT} {C g : Addr} {n : Nat} {sp : Sp} {E : XK}
def rLenO (C : Addr) (sp : Sp) (E : XK) (X : Cx) : List V → Hp → VK → Prop := fun xs H Q => ∃ a : Addr, xs = [V.ref a] ∧ StX.InsC X H a C ∧ sp [.ref a] H (fun z H' => ∃ i : Int, z = .int i ∧ 0 ≤ i ∧ i < 1000000 ∧ Q (.int i) H') E
theorem call_lenO (hs : PySem.W.findIn X.K (.ref C) "__len__" = some (some (.ref g))) (hf : PySem.W.isFn X.K (.ref g) = true) (F : FnR X.prog X.w X.K X.mg X.base CX n g sp) (hr : Room (n + 1) X.A) (hx : Passes CX X E) : CallR X (.builtin "len") (rLenO C sp E X) := by
  intro pins s σ H xs us Q I r h
  obtain ⟨a, rfl, ia, q⟩ := h
  obtain ⟨u, rfl, ru⟩ := r.one
  cases (show u = Value.ref a from ru)
  obtain ⟨ox, od, at_, _⟩ := StX.insC_at I ia
  obtain ⟨m, fr⟩ := I.fr
  have hr2 : Room n X.A.in1 := Room.in1 hr
  refine PySem.W.len_K fr I.ok.mod.kin at_ hs hf (wpAny_mono (wpAny_call (SlX.run_at (us := [.ref a]) (ws := [.ref a]) F hr2 I.env0.in1 hx I (.cons rfl .nil) q)) (fun w s' z => ?_) fun _ _ x => x)
  obtain ⟨z', H', I', rz, i, ei, i0, i1, qz⟩ := z
  subst ei
  obtain ⟨t, e⟩ := (show ∃ t, w = Value.int i t from rz)
  cases e
  exact ⟨⟨i0, by omega⟩, .int i, H', I'.tok _, ⟨_, rfl⟩, qz⟩
end
end L2

set_option maxRecDepth 100000
set_option maxHeartbeats 4000000
namespace K09
open PySem PySem.Spec PyProof.Rows L2 He VH RZ
/-! two Writers compared -/
/-- a Writer whose steps have the trees ts -/
def WrS (K : PySem.W.Frag) (H : Hp) (a : Addr) (z : Str) (ts : List Tr) (b : Bool) : Prop := ∃ xs, WrAt K H a z xs b ∧ Ats K H xs ts
abbrev sWrE : Stmt := inClass (top 37) 1
abbrev FnWrE (K : PySem.W.Frag) (fd : FuncData) : Prop := FnM K "__eq__" "Writer.__eq__" 37 1 (ma K (ga K "Writer") "__eq__") fd
theorem bWrE {K : PySem.W.Frag} {fd : FuncData} (F : FnWrE K fd) : Binds K fd ["self", "other"] [] := FunD.bindsN F fun _ _ _ _ _ _ us hl => match us, hl with | [_, _], _ => rfl
def spWrE (K : PySem.W.Frag) : Sp := fun vs H Q _ => ∃ (a : Addr) (z : Str) (ts : List Tr) (b : Bool) (y : V), vs = [.ref a, y] ∧ WrS K H a z ts b ∧ (Tr.tup ts).dep ≤ 60 ∧
  ((∃ (a' : Addr) (z' : Str) (ts' : List Tr) (b' r : Bool), y = .ref a' ∧ WrS K H a' z' ts' b' ∧ Tr.eq (.tup ts) (.tup ts') = some r ∧ Q (.bl (decide (z = z') && r)) H) ∨ (∃ t, TyX K H y t ∧ PySem.W.kitOne K t (.ref (ga K "Writer")) = some false ∧ Q (.bl false) H))
section
variable {P : Program} {w : World} {K : PySem.W.Frag} {mg : Str → Option Value} {base : Heap} {f : Addr} {fd : FuncData}
theorem scWrE : FnScope ["self", "other"] ["self", "other"] (defScope sWrE) := ⟨rfl, rfl, rfl, by decide +kernel, rfl, by decide +kernel, by decide +kernel⟩
theorem ok_wrE (F : FnM K "__eq__" "Writer.__eq__" 37 1 f fd) (T : Txt K mg w) : FnOk P w K mg base CX0 1 f fd ["self", "other"] (spWrE K) := by
  refine F.ok scWrE (fun vs H Q E h => ?_) (fun cdv A outer s H vs Q E hr h => ?_)
  · obtain ⟨_, _, _, _, _, rfl, _⟩ := h
    rfl
  refine ⟨_, PSs.nox (pss_one (ps_ret (pe_and (pe_callB call_isi (by rfl) T.g_isinstance boot_isinstance (pa_cons (pv 1) (pa_cons (pe_glob (v := .ref (ga K "Writer")) (by rfl) T.m_Writer rfl) pa_nil)))
    (pe_and (pe_cmpR op_eq (pe_fld (pv 0) (by rfl)) (pe_fld (pv 1) (by rfl)) (nomark _))
    (pe_one (pe_cmpR (op_eqT hr.units) (pe_fld (pv 0) (by rfl)) (pe_fld (pv 1) (by rfl)) (nomark _))))))), ?_⟩
  obtain ⟨a, z, ts, b, y, rfl, ha, dp, way⟩ := h
  rcases way with ⟨a', z', ts', b', r, rfl, hb, er, q⟩ | ⟨t, ty, k, q⟩
  case inr => exact ⟨_, rfl, _, _, t, _, false, rfl, .own (ga K "Writer"), ty, k, false, rfl, iteF q⟩
  obtain ⟨xs, ha, as⟩ := ha
  obtain ⟨ys, hb, bs⟩ := hb
  have ty := WrAt.ty T hb
  obtain ⟨dx, t1, ha, a1⟩ := ha
  obtain ⟨dy, u1, hb, b1⟩ := hb
  refine ⟨_, rfl, _, _, _, _, true, rfl, .own (ga K "Writer"), ty, T.o_Writer.kk, true, rfl, iteT ?_⟩
  refine ⟨_, rfl, a, _, dx, _, _, rfl, ha, T.c_Writer, T.n_Writer_name, rfl, _, rfl, a', _, dy, _, _, rfl, hb, T.c_Writer, T.n_Writer_name, rfl, rfl, _, rfl, ?_⟩
  by_cases e1 : z = z'
  case neg =>
    rw [show decide (V.str z = V.str z') = false by simp [e1]]
    rw [decide_eq_false e1] at q
    exact iteF q
  rw [show decide (V.str z = V.str z') = true by simp [e1]]
  rw [decide_eq_true e1, Bool.true_and] at q
  refine iteT ⟨_, rfl, a, _, dx, _, _, rfl, ha, T.c_Writer, T.n_Writer_steps, rfl, _, rfl, a', _, dy, _, _, rfl, hb, T.c_Writer, T.n_Writer_steps, rfl, ?_⟩
  exact ⟨_, _, r, .tup (SqT.of a1) as, .tup (SqT.of b1) bs, er, dp, q⟩
end
section
variable {P : Program} {w : World} {K : PySem.W.Frag} {mg : Str → Option Value} {base : Heap} {f : Addr} {fd : FuncData}
theorem raw0 {CX : CXT} {k : Nat} {ps : List Str} {sp : Sp} (F : FnOk P w K mg base CX k f fd ps sp) (b : Binds K fd ps []) : FnR P w K mg base CX k f sp :=
  fun A o s H us vs Q E hr en va h => F.raw b .nil A o s H us vs Q E hr en va (by
    show sp (vs ++ []) H Q E
    rw [List.append_nil]
    exact h)
end
section
variable {X : Cx} {fd : FuncData}
theorem op_eqW (T : Txt X.K X.mg X.w) (F : FnWrE X.K fd) (hr : Room 1 X.A) : OpR X (compareOp .Eq) (rOwnA X.K (ga X.K "Writer") (spWrE X.K) E0 X) :=
  op_ownA (fun _ _ => rfl) T.h_Writer_eq.at_ T.h_Writer_eq.fn (raw0 (ok_wrE F T) (bWrE F)) hr pass0
theorem op_neW (T : Txt X.K X.mg X.w) (F : FnWrE X.K fd) (hr : Room 2 X.A) : OpR X (compareOp .NotEq) (rNeA X.K (ga X.K "Writer") (spWrE X.K) E0 X) :=
  op_neA T.o_Writer.ne T.o_Writer.ob T.h_Writer_eq.at_ T.h_Writer_eq.fn (raw0 (ok_wrE F T) (bWrE F)) hr pass0
theorem WrS.ins {K : PySem.W.Frag} {H : Hp} {a : Addr} {z : Str} {ts : List Tr} {b : Bool} (h : WrS K H a z ts b) : ∃ dx fs, H a = some (.ins (ga K "Writer") dx fs) := by
  obtain ⟨_, ⟨dx, _, h, _⟩, _⟩ := h
  exact ⟨dx, _, h⟩
theorem read_eqW (T : Txt X.K X.mg X.w) {H : Hp} {a a' : Addr} {z z' : Str} {ts ts' : List Tr} {b b' r : Bool} {Q : VK} (ha : WrS X.K H a z ts b) (dp : (Tr.tup ts).dep ≤ 60) (hb : WrS X.K H a' z' ts' b') (er : Tr.eq (.tup ts) (.tup ts') = some r) (q : Q (.bl (decide (z = z') && r)) H) :
    rOwnA X.K (ga X.K "Writer") (spWrE X.K) E0 X (.ref a) (.ref a') H Q := by
  obtain ⟨ys, hb', bs⟩ := id hb
  refine ⟨a, _, rfl, .inr ?_, WrAt.ty T hb', ?_, a, z, ts, b, _, rfl, ha, dp, .inl ⟨a', z', ts', b', r, rfl, hb, er, q⟩⟩
  · exact ha.ins
  · unfold PySem.W.notFirst
    simp
theorem read_neW (T : Txt X.K X.mg X.w) {H : Hp} {a a' : Addr} {z z' : Str} {ts ts' : List Tr} {b b' r : Bool} {Q : VK} (ha : WrS X.K H a z ts b) (dp : (Tr.tup ts).dep ≤ 60) (hb : WrS X.K H a' z' ts' b') (er : Tr.eq (.tup ts) (.tup ts') = some r) (q : Q (.bl (!(decide (z = z') && r))) H) :
    rNeA X.K (ga X.K "Writer") (spWrE X.K) E0 X (.ref a) (.ref a') H Q := by
  obtain ⟨ys, hb', bs⟩ := id hb
  refine ⟨a, _, rfl, .inr ?_, WrAt.ty T hb', ?_, a, z, ts, b, _, rfl, ha, dp, .inl ⟨a', z', ts', b', r, rfl, hb, er, _, rfl, q⟩⟩
  · exact ha.ins
  · unfold PySem.W.notFirst
    simp
theorem read_eqWs (T : Txt X.K X.mg X.w) {H : Hp} {a : Addr} {z y : Str} {ts : List Tr} {b : Bool} {Q : VK} (ha : WrS X.K H a z ts b) (dp : (Tr.tup ts).dep ≤ 60) (q : Q (.bl false) H) : rOwnA X.K (ga X.K "Writer") (spWrE X.K) E0 X (.ref a) (.str y) H Q := by
  have k := T.o_Writer.kt "str" (by simp)
  refine ⟨a, _, rfl, .inr ha.ins, .base (.str y), ?_, a, z, ts, b, _, rfl, ha, dp, .inr ⟨_, .base (.str y), k.1, q⟩⟩
  unfold PySem.W.notFirst
  rw [k.2]
  simp
end
end K09

set_option maxRecDepth 100000
set_option maxHeartbeats 4000000
namespace K09
open PySem PySem.Spec PyProof.Rows L2 He VH
/-! two Phases compared -/
theorem eqsS : ∀ ws us : List Str, Tr.eqs (ws.map Tr.str) (us.map Tr.str) = some (decide (ws = us))
  | [], [] => rfl
  | [], _ :: _ => rfl
  | _ :: _, [] => rfl
  | w :: ws, u :: us => by
    show (match Tr.eq (.str w) (.str u), Tr.eqs (ws.map Tr.str) (us.map Tr.str) with
      | some b, some c => some (b && c)
      | _, _ => none) = _
    rw [eqsS ws us]
    show some ((w == u) && decide (ws = us)) = _
    congr 1
    by_cases h1 : w = u <;> by_cases h2 : ws = us <;> simp [h1, h2]
theorem eqS (ws us : List Str) : Tr.eq (.tup (ws.map Tr.str)) (.tup (us.map Tr.str)) = some (decide (ws = us)) := by
  rw [Tr.eq]
  exact eqsS ws us
theorem depS : ∀ ws : List Str, Tr.deps (ws.map Tr.str) = 0
  | [] => rfl
  | _ :: ws => by
    show max 0 (Tr.deps (ws.map Tr.str)) = 0
    rw [depS ws]
    rfl
theorem depT (ws : List Str) : (Tr.tup (ws.map Tr.str)).dep ≤ 60 := by
  show Tr.deps (ws.map Tr.str) + 1 ≤ 60
  rw [depS]
  omega
theorem atS {K : PySem.W.Frag} {H : Hp} {p : Addr} {ws : List Str} (h : SqT K H p (ws.map V.str)) : At K H (.ref p) (.tup (ws.map Tr.str)) := .tup h (Ats.strs ws)
abbrev sPhE : Stmt := inClass (top 40) 1
abbrev FnPhE (K : PySem.W.Frag) (fd : FuncData) : Prop := FnM K "__eq__" "Phase.__eq__" 40 1 (ma K (ga K "Phase") "__eq__") fd
theorem bPhE {K : PySem.W.Frag} {fd : FuncData} (F : FnPhE K fd) : Binds K fd ["self", "other"] [] := FunD.bindsN F fun _ _ _ _ _ _ us hl => match us, hl with | [_, _], _ => rfl
def spPhE (K : PySem.W.Frag) : Sp := fun vs H Q _ => ∃ (a : Addr) (d : Ph) (y : V), vs = [.ref a, y] ∧ PhS K H a d ∧
  ((∃ (b : Addr) (d' : Ph), y = .ref b ∧ PhS K H b d' ∧ Q (.bl (decide (d = d'))) H) ∨ (∃ t, TyX K H y t ∧ PySem.W.kitOne K t (.ref (ga K "Phase")) = some false ∧ Q (.bl false) H))
section
variable {P : Program} {w : World} {K : PySem.W.Frag} {mg : Str → Option Value} {base : Heap} {f : Addr} {fd : FuncData}
theorem scPhE : FnScope ["self", "other"] ["self", "other"] (defScope sPhE) := ⟨rfl, rfl, rfl, by decide +kernel, rfl, by decide +kernel, by decide +kernel⟩
theorem ok_phE (F : FnM K "__eq__" "Phase.__eq__" 40 1 f fd) (T : Txt K mg w) : FnOk P w K mg base CX0 1 f fd ["self", "other"] (spPhE K) := by
  refine F.ok scPhE (fun vs H Q E h => ?_) (fun cdv A outer s H vs Q E hr h => ?_)
  · obtain ⟨_, _, _, rfl, _⟩ := h
    rfl
  refine ⟨_, PSs.nox (pss_one (ps_ret (pe_and (pe_callB call_isi (by rfl) T.g_isinstance boot_isinstance (pa_cons (pv 1) (pa_cons (pe_glob (v := .ref (ga K "Phase")) (by rfl) T.m_Phase rfl) pa_nil)))
    (pe_and (pe_cmpR op_eq (pe_fld (pv 0) (by rfl)) (pe_fld (pv 1) (by rfl)) (nomark _))
    (pe_and (pe_cmpR (op_eqT hr.units) (pe_fld (pv 0) (by rfl)) (pe_fld (pv 1) (by rfl)) (nomark _))
    (pe_and (pe_cmpR op_eq (pe_fld (pv 0) (by rfl)) (pe_fld (pv 1) (by rfl)) (nomark _))
    (pe_and (pe_cmpR (op_eqT hr.units) (pe_fld (pv 0) (by rfl)) (pe_fld (pv 1) (by rfl)) (nomark _))
    (pe_one (pe_cmpR (op_eqT hr.units) (pe_fld (pv 0) (by rfl)) (pe_fld (pv 1) (by rfl)) (nomark _)))))))))), ?_⟩
  obtain ⟨a, d, y, rfl, ha, way⟩ := h
  rcases way with ⟨b, d', rfl, hb, q⟩ | ⟨t, ty, k, q⟩
  case inr => exact ⟨_, rfl, _, _, t, _, false, rfl, .own (ga K "Phase"), ty, k, false, rfl, iteF q⟩
  have ty := PhAt.ty T hb
  obtain ⟨dx, t1, t2, t3, ha, a1, a2, a3⟩ := ha
  obtain ⟨dy, u1, u2, u3, hb, b1, b2, b3⟩ := hb
  obtain ⟨z, ws, b0, ps, qs⟩ := d
  obtain ⟨z', ws', b0', ps', qs'⟩ := d'
  simp only at ha hb a1 a2 a3 b1 b2 b3
  have eq : decide ((⟨z, ws, b0, ps, qs⟩ : Ph) = ⟨z', ws', b0', ps', qs'⟩) = (decide (z = z') && (decide (ws = ws') && (decide (b0 = b0') && (decide (ps = ps') && decide (qs = qs'))))) := by
    by_cases h1 : z = z' <;> by_cases h2 : ws = ws' <;> by_cases h3 : b0 = b0' <;> by_cases h4 : ps = ps' <;> by_cases h5 : qs = qs' <;> simp [h1, h2, h3, h4, h5]
  rw [eq] at q
  refine ⟨_, rfl, _, _, _, _, true, rfl, .own (ga K "Phase"), ty, T.o_Phase.kk, true, rfl, iteT ?_⟩
  refine ⟨_, rfl, a, _, dx, _, _, rfl, ha, T.c_Phase, T.n_Phase_name, rfl, _, rfl, b, _, dy, _, _, rfl, hb, T.c_Phase, T.n_Phase_name, rfl, rfl, _, rfl, ?_⟩
  by_cases e1 : z = z'
  case neg =>
    rw [show decide (V.str z = V.str z') = false by simp [e1]]
    rw [decide_eq_false e1] at q
    exact iteF q
  rw [show decide (V.str z = V.str z') = true by simp [e1]]
  rw [decide_eq_true e1, Bool.true_and] at q
  refine iteT ⟨_, rfl, a, _, dx, _, _, rfl, ha, T.c_Phase, T.n_Phase_writers, rfl, _, rfl, b, _, dy, _, _, rfl, hb, T.c_Phase, T.n_Phase_writers, rfl, ?_⟩
  refine ⟨_, _, decide (ws = ws'), atS a1, atS b1, eqS ws ws', depT ws, _, rfl, ?_⟩
  cases e2 : decide (ws = ws')
  case false =>
    rw [e2] at q
    exact iteF q
  rw [e2, Bool.true_and] at q
  refine iteT ⟨_, rfl, a, _, dx, _, _, rfl, ha, T.c_Phase, T.n_Phase_fills, rfl, _, rfl, b, _, dy, _, _, rfl, hb, T.c_Phase, T.n_Phase_fills, rfl, rfl, _, rfl, ?_⟩
  by_cases e3 : b0 = b0'
  case neg =>
    rw [show decide (V.bl b0 = V.bl b0') = false by simp [e3]]
    rw [decide_eq_false e3] at q
    exact iteF q
  rw [show decide (V.bl b0 = V.bl b0') = true by simp [e3]]
  rw [decide_eq_true e3, Bool.true_and] at q
  refine iteT ⟨_, rfl, a, _, dx, _, _, rfl, ha, T.c_Phase, T.n_Phase_promises, rfl, _, rfl, b, _, dy, _, _, rfl, hb, T.c_Phase, T.n_Phase_promises, rfl, ?_⟩
  refine ⟨_, _, decide (ps = ps'), atS a2, atS b2, eqS ps ps', depT ps, _, rfl, ?_⟩
  cases e4 : decide (ps = ps')
  case false =>
    rw [e4] at q
    exact iteF q
  rw [e4, Bool.true_and] at q
  refine iteT ⟨_, rfl, a, _, dx, _, _, rfl, ha, T.c_Phase, T.n_Phase_waits, rfl, _, rfl, b, _, dy, _, _, rfl, hb, T.c_Phase, T.n_Phase_waits, rfl, ?_⟩
  exact ⟨_, _, decide (qs = qs'), atS a3, atS b3, eqS qs qs', depT qs, q⟩
end
section
variable {X : Cx} {fd : FuncData}
theorem op_eqPh (T : Txt X.K X.mg X.w) (F : FnPhE X.K fd) (hr : Room 1 X.A) : OpR X (compareOp .Eq) (rOwnA X.K (ga X.K "Phase") (spPhE X.K) E0 X) :=
  op_ownA (fun _ _ => rfl) T.h_Phase_eq.at_ T.h_Phase_eq.fn (raw0 (ok_phE F T) (bPhE F)) hr pass0
end
end K09

set_option maxRecDepth 100000
set_option maxHeartbeats 4000000
namespace K09
open PySem PySem.Spec PyProof.Rows L2 He VH RZ
/-! Fill(..), Rollout(..), rebuilt(..), len(a Rollout) -/
abbrev sRoL : Stmt := inClass (top 45) 1
abbrev FnRoL (K : PySem.W.Frag) (fd : FuncData) : Prop := FnM K "__len__" "Rollout.__len__" 45 1 (ma K (ga K "Rollout") "__len__") fd
theorem bRoL {K : PySem.W.Frag} {fd : FuncData} (F : FnRoL K fd) : Binds K fd ["self"] [] := FunD.bindsN F fun _ _ _ _ _ _ us hl => match us, hl with | [_], _ => rfl
section
variable {K : PySem.W.Frag} {fd : FuncData}
theorem kRo (F : FnRoI K fd) : ∃ mv : List Value, KBn K fd pRoI 4 ["workers", "hands", "back"] (fun us ws => us ++ (mv ++ ws)) (fun vs zs => vs ++ (((([] : List (Str × V)).map (·.2)) ++ zs))) :=
  FunD.kbinds0 F 4 ["workers", "hands", "back"] [] (fun us its ws => us ++ (its ++ ws)) (by simp [kwR]) (by simp) (fun a d b => a.append (d.append b))
    fun D doc pm an cdv ct us mv ws l1 l2 l3 => match us, mv, ws, l1, l2, l3 with
      | [_, _, _, _], [], [_, _, _], _, _, _ => rfl
theorem kFl (F : FnFlI K fd) : ∃ mv : List Value, KBn K fd pFlI 2 ["batch", "save", "lock", "only_missing", "falls", "again"] (fun us ws => us ++ (mv ++ ws)) (fun vs zs => vs ++ (((([] : List (Str × V)).map (·.2)) ++ zs))) :=
  FunD.kbinds0 F 2 ["batch", "save", "lock", "only_missing", "falls", "again"] [] (fun us its ws => us ++ (its ++ ws)) (by simp [kwF]) (by simp) (fun a d b => a.append (d.append b))
    fun D doc pm an cdv ct us mv ws l1 l2 l3 => match us, mv, ws, l1, l2, l3 with
      | [_, _], [], [_, _, _, _, _, _], _, _, _ => rfl
end
theorem But.new {a : Addr} {H H' : Hp} (h : But a H H') (n : H a = none) : Same H H' := fun b o e => h b o (fun z => by rw [z, n] at e; cases e) e
theorem RoAt.same {K : PySem.W.Frag} {H H' : Hp} {a fa : Addr} {ws ps bs : List V} {d : Ro} (h : RoAt K H a ws ps bs fa d) (s : Same H H') : RoAt K H' a ws ps bs fa d := by
  obtain ⟨dx, t1, t2, t3, h, a1, a2, a3⟩ := h
  exact ⟨dx, t1, t2, t3, s _ _ h, a1.same s, a2.same s, a3.same s⟩
theorem Parts.same {K : PySem.W.Frag} {H H' : Hp} {ws ps bs : List V} {fa : Addr} {d : Ro} (h : Parts K H ws ps bs fa d) (s : Same H H') : Parts K H' ws ps bs fa d where
  w := h.w.same fun _ _ h => h.same s
  f := h.f.same s
  p := h.p.same fun _ _ h => h.same s
  b := h.b.same fun _ _ h => h.same s
/-- a Rollout with its parts -/
structure Roll (K : PySem.W.Frag) (H : Hp) (a : Addr) (ws ps bs : List V) (fa : Addr) (d : Ro) : Prop where
  r : RoAt K H a ws ps bs fa d
  p : Parts K H ws ps bs fa d
  ok : d.Ok
theorem Roll.same {K : PySem.W.Frag} {H H' : Hp} {a fa : Addr} {ws ps bs : List V} {d : Ro} (h : Roll K H a ws ps bs fa d) (s : Same H H') : Roll K H' a ws ps bs fa d := ⟨h.r.same s, h.p.same s, h.ok⟩
theorem RoAt.ty {K : PySem.W.Frag} {mg : Str → Option Value} {w : World} (T : Txt K mg w) {H : Hp} {a fa : Addr} {ws ps bs : List V} {d : Ro} (h : RoAt K H a ws ps bs fa d) : TyX K H (.ref a) (.ref (ga K "Rollout")) := by
  obtain ⟨dx, _, _, _, h, _⟩ := h
  exact .base (.ins h T.c_Rollout T.o_Rollout.cls T.dc1 T.dc2 T.o_Rollout.mro)
def spRoL (K : PySem.W.Frag) : Sp := fun vs H Q _ => ∃ (a : Addr) (ws ps bs : List V) (fa : Addr) (d : Ro), vs = [.ref a] ∧ RoAt K H a ws ps bs fa d ∧ Q (.int (ps.length : Nat)) H
section
variable {P : Program} {w : World} {K : PySem.W.Frag} {mg : Str → Option Value} {base : Heap} {f : Addr} {fd fdI fdX : FuncData}
theorem scRoL : FnScope ["self"] ["self"] (defScope sRoL) := ⟨rfl, rfl, rfl, by decide +kernel, rfl, by decide +kernel, by decide +kernel⟩
theorem ok_roL (F : FnM K "__len__" "Rollout.__len__" 45 1 f fd) (T : Txt K mg w) : FnOk P w K mg base CX0 1 f fd ["self"] (spRoL K) := by
  refine F.ok scRoL (fun vs H Q E h => ?_) (fun cdv A outer s H vs Q E hr h => ?_)
  · obtain ⟨_, _, _, _, _, _, rfl, _⟩ := h
    rfl
  refine ⟨_, PSs.nox (pss_one (ps_ret (pe_callB call_len_seq (by rfl) T.g_len boot_len (pa_cons (pe_fld (pv 0) (by rfl)) pa_nil)))), ?_⟩
  obtain ⟨a, ws, ps, bs, fa, d, rfl, hr0, q⟩ := h
  obtain ⟨dx, t1, t2, t3, h0, a1, a2, a3⟩ := hr0
  exact ⟨_, rfl, a, _, dx, _, _, rfl, h0, T.c_Rollout, T.n_Rollout_phases, rfl, t2, ps, rfl, .inr a2, q⟩
end
section
variable {X : Cx} {fd : FuncData}
theorem call_lenR (T : Txt X.K X.mg X.w) (F : FnRoL X.K fd) (hr : Room 2 X.A) : CallR X (.builtin "len") (rLenO (ga X.K "Rollout") (spRoL X.K) E0 X) :=
  call_lenO T.h_Rollout_len.at_ T.h_Rollout_len.fn (raw0 (ok_roL F T) (bRoL F)) hr pass0
theorem read_lenR {H : Hp} {a fa : Addr} {ws ps bs : List V} {d : Ro} {Q : VK} (h : RoAt X.K H a ws ps bs fa d) (l : ps.length ≤ 1000) (q : Q (.int (ps.length : Nat)) H) : rLenO (ga X.K "Rollout") (spRoL X.K) E0 X [.ref a] H Q := by
  refine ⟨a, rfl, .inr ?_, a, ws, ps, bs, fa, d, rfl, h, _, rfl, by omega, by omega, q⟩
  obtain ⟨dx, _, _, _, h, _⟩ := h
  exact ⟨dx, _, h⟩
end
end K09

set_option maxRecDepth 100000
set_option maxHeartbeats 4000000
namespace K09
open PySem PySem.Spec PyProof.Rows L2 He VH RZ
/-! what is right, said plainly; a Rollout without one of its Phases -/
theorem nodup_take {α : Type} {l : List α} : l.Nodup ↔ ∀ (k : Nat) (x : α), l[k]? = some x → x ∉ l.take k := by
  unfold List.Nodup
  rw [List.pairwise_iff_getElem]
  constructor
  · intro h k x e m
    obtain ⟨lk, rfl⟩ := List.getElem?_eq_some_iff.mp e
    obtain ⟨i, hi, e2⟩ := List.mem_take_iff_getElem.mp m
    exact h i k (by omega) lk (by omega) e2
  · intro h i j hi hj lt e
    exact h j _ (List.getElem?_eq_getElem hj) (e ▸ List.mem_take_iff_getElem.mpr ⟨i, by omega, rfl⟩)
theorem find_none {n : Nat} {ok : Nat → Bool} : (List.range n).find? (fun k => !ok k) = none ↔ ∀ k, k < n → ok k = true := by
  rw [List.find?_eq_none]
  constructor
  · intro h k l
    have := h k (List.mem_range.mpr l)
    simpa using this
  · intro h k m
    rw [h k (List.mem_range.mp m)]
    simp
theorem badN_iff {zs : List Str} : badN (zs.map some) = none ↔ zs.Nodup := by
  unfold badN
  rw [find_none, nodup_take, List.length_map]
  constructor
  · intro h k x e m
    have := h k (List.getElem?_eq_some_iff.mp e).1
    unfold okN at this
    rw [List.getElem?_map, e] at this
    simp only [Option.map_some, Bool.not_eq_true', ← List.map_take] at this
    have : ¬ (some x ∈ (zs.take k).map some) := by
      rw [← List.contains_iff_mem, this]
      simp
    exact this (List.mem_map.mpr ⟨x, m, rfl⟩)
  · intro h k l
    have e := List.getElem?_eq_getElem l
    have := h k _ e
    unfold okN
    rw [List.getElem?_map, e]
    simp only [Option.map_some, Bool.not_eq_true', ← List.map_take]
    rw [← Bool.not_eq_true, List.contains_iff_mem, List.mem_map]
    rintro ⟨y, hy, ey⟩
    cases ey
    exact this hy
theorem phN_map (ds : List Ph) : phN (ds.map some) = ds.map (·.z) := by
  unfold phN
  rw [List.filterMap_map]
  induction ds with
  | nil => rfl
  | cons a l ih =>
    simp [List.filterMap_cons]
    exact ih
theorem badP_iff {ds : List Ph} {kn : List Str} : badP (ds.map some) kn = none ↔ (ds.map (·.z)).Nodup ∧ ∀ d ∈ ds, d.ws.all kn.contains = true := by
  unfold badP
  rw [find_none, nodup_take, List.length_map]
  have one : ∀ (k : Nat) (d : Ph), ds[k]? = some d → okP (ds.map some) kn k = (!((ds.map (·.z)).take k).contains d.z && d.ws.all kn.contains) := fun k d e => by
    unfold okP
    rw [List.getElem?_map, e]
    simp only [Option.map_some]
    rw [← List.map_take, phN_map, List.map_take]
  constructor
  · intro h
    refine ⟨fun k x e m => ?_, fun d hd => ?_⟩
    · rw [List.getElem?_map] at e
      obtain ⟨d, ed, rfl⟩ := Option.map_eq_some_iff.mp e
      have := h k (List.getElem?_eq_some_iff.mp ed).1
      rw [one k d ed, Bool.and_eq_true] at this
      have c := List.contains_iff_mem.mpr m
      rw [c] at this
      exact Bool.noConfusion this.1
    · obtain ⟨k, lk, e⟩ := List.mem_iff_getElem.mp hd
      have := h k lk
      rw [one k d (by rw [List.getElem?_eq_getElem lk, e]), Bool.and_eq_true] at this
      exact this.2
  · intro ⟨h1, h2⟩ k l
    have e := List.getElem?_eq_getElem l
    rw [one k _ e, h2 _ (List.getElem_mem l), Bool.and_true, Bool.not_eq_true', ← Bool.not_eq_true, List.contains_iff_mem]
    exact h1 k _ (by rw [List.getElem?_map, e]; rfl)
theorem Each.snoc {α : Type} {p : Hp → V → α → Prop} {H : Hp} {xs : List V} {zs : List α} {x : V} {z : α} (h : Each p H xs zs) (hx : p H x z) : Each p H (xs ++ [x]) (zs ++ [z]) := by
  refine ⟨by rw [List.length_append, List.length_append, h.1]; rfl, fun i y e => ?_⟩
  rw [List.getElem?_append] at e ⊢
  rw [← h.1]
  by_cases c : i < xs.length
  · rw [if_pos c] at e ⊢
    exact h.2 i y e
  · rw [if_neg c] at e ⊢
    obtain ⟨l, _⟩ := List.getElem?_eq_some_iff.mp e
    have : i - xs.length = 0 := by
      have : i - xs.length < 1 := l
      omega
    rw [this] at e ⊢
    cases e
    exact ⟨z, rfl, hx⟩
theorem fm_some {α : Type} (rs : List α) (k : Nat) : ((rs.map some).take k).filterMap id = rs.take k := by
  rw [← List.map_take, List.filterMap_map]
  show (rs.take k).filterMap some = _
  rw [List.filterMap_some]
theorem badY_iff {rs : List (Int × Int)} {m : Int} : badY (rs.map some) m = none ↔ rs.Nodup ∧ ∀ r ∈ rs, 0 ≤ r.2 ∧ r.2 < r.1 ∧ r.1 < m := by
  unfold badY
  rw [find_none, nodup_take, List.length_map]
  have wy : ∀ r : Int × Int, wayB (some r.1) (some r.2) m = true ↔ 0 ≤ r.2 ∧ r.2 < r.1 ∧ r.1 < m := fun r => by
    unfold wayB btwB
    simp only [Bool.and_eq_true, decide_eq_true_eq]
    omega
  have one : ∀ (k : Nat) (r : Int × Int), rs[k]? = some r → okY (rs.map some) m k = (wayB (some r.1) (some r.2) m && !(rs.take k).contains r) := fun k r e => by
    unfold okY
    rw [List.getElem?_map, e]
    simp only [Option.map_some]
    rw [fm_some]
  constructor
  · intro h
    refine ⟨fun k x e mm => ?_, fun r hr => ?_⟩
    · have := h k (List.getElem?_eq_some_iff.mp e).1
      rw [one k x e, Bool.and_eq_true] at this
      have c := List.contains_iff_mem.mpr mm
      rw [c] at this
      exact Bool.noConfusion this.2
    · obtain ⟨k, lk, e⟩ := List.mem_iff_getElem.mp hr
      have := h k lk
      rw [one k r (by rw [List.getElem?_eq_getElem lk, e]), Bool.and_eq_true] at this
      exact (wy r).mp this.1
  · intro ⟨h1, h2⟩ k l
    have e := List.getElem?_eq_getElem l
    rw [one k _ e, (wy _).mpr (h2 _ (List.getElem_mem l)), Bool.true_and, Bool.not_eq_true', ← Bool.not_eq_true, List.contains_iff_mem]
    exact h1 k _ e
end K09

set_option maxRecDepth 100000
set_option maxHeartbeats 4000000
/-! Slices and sums of tuples, told by their items alone. -/
namespace L2
open PySem PySem.Spec PyProof.Rows
theorem cut_whole {xs : List V} {lo hi : Option Int} (h : HT.sIx xs.length 0 lo = 0 ∧ HT.sIx xs.length xs.length hi = xs.length) : cutV xs lo hi = xs := by
  unfold cutV
  rw [h.1, h.2]
  simp
def rSlZ (K : PySem.W.Frag) : V → Option Int → Option Int → Hp → VK → Prop := fun x lo hi H Q => ∃ a xs, x = .ref a ∧ SqT K H a xs ∧ ∀ (q : Addr) (G : Hp), Same H G → SqT K G q (cutV xs lo hi) → Q (.ref q) G
theorem sl_tupZ {X : Cx} : SlR X (rSlZ X.K) := by
  intro pins s σ H x v vl vu lo hi sl Q I rx hs pl pu h
  obtain ⟨a, xs, rfl, hx, k⟩ := h
  refine sl_tupA pins s σ H _ v vl vu lo hi sl Q I rx hs pl pu ⟨a, xs, rfl, hx, fun w => k a H (Same.refl H) (by rw [cut_whole w]; exact hx), fun _ p np => k p _ (Same.new np) (SqT.of upd_same)⟩
def rCatZ (K : PySem.W.Frag) : R2 := fun x y H Q => ∃ a b xs ys, x = .ref a ∧ y = .ref b ∧ SqT K H a xs ∧ SqT K H b ys ∧ xs.length + ys.length ≤ sizeLine ∧ ∀ (q : Addr) (G : Hp), Same H G → SqT K G q (xs ++ ys) → Q (.ref q) G
theorem op_catZ {X : Cx} : OpR X (binaryOp .Add) (rCatZ X.K) := by
  intro pins s σ H x y v u Q I rx ry h
  obtain ⟨a, b, xs, ys, rfl, rfl, ha, hb, l, k⟩ := h
  refine op_catA pins s σ H _ _ v u Q I rx ry ⟨a, b, xs, ys, rfl, rfl, ha, hb, l, fun e => ?_, fun _ e => ?_, fun _ _ p np => k p _ (Same.new np) (SqT.of upd_same)⟩
  · subst e
    exact k b H (Same.refl H) hb
  · subst e
    exact k a H (Same.refl H) (by rw [List.append_nil]; exact ha)
end L2

set_option maxRecDepth 100000
set_option maxHeartbeats 1000000
namespace K09
open PySem PySem.Spec PyProof.Rows L2 He VH RZ
/-! the Writer of a name and a list of steps -/
theorem pdefs {K : PySem.W.Frag} (fns : Fns K) : PDefs K := ⟨fns.f_is_word, fns.f_are_words, fns.f_is_statement, fns.f_checks_of, fns.f_has_word, fns.f_needs_read, fns.f_needs_input, fns.f_NoStatement_init, fns.f_is_read, fns.f_is_behind_read, fns.f_step_fits⟩
abbrev sLw : Stmt := top 60
abbrev nLw : List Str := ["_law_title", "_law_steps_here"]
theorem same_ins {H : Hp} {x dx : Addr} {o o' : HO} (nx : H x = none) (nd : H dx = none) (ne : dx ≠ x) : Same H (upd (upd H dx o) x o') := fun b u h => by
  rw [upd_ne (ne_of_none h nx), upd_ne (ne_of_none h nd)]
  exact h
theorem same_but {H G H' : Hp} {x : Addr} (s : Same H G) (nx : H x = none) (b : But x G H') : Same H H' := fun c u h => b c u (ne_of_none h nx) (s _ _ h)
/-- what is right of a Writer that is to be made -/
def LwOk (K : PySem.W.Frag) (H : Hp) (z : Str) (xs : List V) (ds : List Sd) (Q : VK) (E : XK) : Prop := nameB z = true ∧ z.length ≤ 1000 ∧ SdL K H xs ds ∧ (1 ≤ xs.length ∧ xs.length ≤ 3) ∧
  (∀ i, bad ds = some i → Rw K E H "steps" (i : Nat)) ∧ (bad ds = none → ∀ (H' : Hp) (a : Addr), H a = none → Same H H' → WrAt K H' a z xs (needs ds) → Q (.ref a) H')
def spLw (K : PySem.W.Frag) : Sp := fun vs H Q E => ∃ (l : Addr) (z : Str) (xs : List V) (ds : List Sd), vs = [.str z, .ref l] ∧ SqL K H l xs ∧ LwOk K H z xs ds Q E
theorem mk_wr {K : PySem.W.Frag} {H : Hp} {z : Str} {xs : List V} {ds : List Sd} {Q : VK} {E : XK} (h : LwOk K H z xs ds Q E) : ∀ x dx, H x = none → H dx = none → dx ≠ x →
    spWr K (V.ref x :: .str z :: xs) (upd (upd H dx (.own x)) x (.ins (ga K "Writer") dx [])) (fun v H2 => v = .non ∧ Q (.ref x) H2) E := fun x dx nx nd ne => by
  obtain ⟨nz, lz, sd, ⟨l1, l2⟩, rz, k⟩ := h
  have S0 := same_ins (o := .own x) (o' := .ins (ga K "Writer") dx []) nx nd ne
  have big : 1000 < sizeLine := by decide
  refine ⟨[.ref x, .str z], xs, rfl, rfl, by omega, fun p np => ?_⟩
  have S1 := Same.new (o := .tup xs) np
  have S := S0.trans S1
  have ln := sd.len
  have er : refuse (some z) ds = (bad ds).map fun (k : Nat) => (("steps" : Str), (k : Int)) := by
    unfold refuse
    rw [if_neg (by simp), if_neg (by omega)]
    cases bad ds <;> rfl
  refine ⟨x, dx, p, .str z, some z, xs, ds, rfl, S1 _ _ upd_same, upd_same, .inl ⟨z, rfl, lz, by rw [nz]; rfl⟩, sd.same S, by omega, fun u i e => ?_, fun z' e0 er' H' bt at_ => ⟨rfl, ?_⟩⟩
  · rw [er] at e
    obtain ⟨m, hm, e⟩ := Option.map_eq_some_iff.mp e
    cases e
    exact (rz m hm).same S
  · rw [er] at er'
    obtain rfl := Option.some.inj e0
    exact k (Option.map_eq_none_iff.mp er') H' x nx (same_but S nx bt) at_
theorem three {xs : List V} (l1 : 1 ≤ xs.length) (l2 : xs.length ≤ 3) : (∃ x0, xs = [x0]) ∨ (∃ x0 x1, xs = [x0, x1]) ∨ (∃ x0 x1 x2, xs = [x0, x1, x2]) := by
  rcases xs with _ | ⟨x0, _ | ⟨x1, _ | ⟨x2, _ | ⟨x3, r⟩⟩⟩⟩
  · exact absurd l1 (by simp)
  · exact .inl ⟨_, rfl⟩
  · exact .inr (.inl ⟨_, _, rfl⟩)
  · exact .inr (.inr ⟨_, _, _, rfl⟩)
  · simp only [List.length_cons] at l2
    omega
section
variable {P : Program} {w : World} {K : PySem.W.Frag} {mg : Str → Option Value} {base : Heap} {f : Addr} {fd : FuncData}
theorem scLw : FnScope nLw ["_law_title", "_law_steps_here"] (defScope sLw) := ⟨rfl, rfl, rfl, by decide +kernel, rfl, by decide +kernel, by decide +kernel⟩
theorem bLw (F : FnP K "_law_writer" sLw f fd) : Binds K fd ["_law_title", "_law_steps_here"] [] := FunD.bindsN F fun _ _ _ _ _ _ us hl => match us, hl with | [_, _], _ => rfl
theorem ok_lw (F : FnP K "_law_writer" sLw f fd) (T : Txt K mg w) (fns : Fns K) : FnOk P w K mg base (L2.CX P w) 9 f fd ["_law_title", "_law_steps_here"] (spLw K) := by
  obtain ⟨fdI, FI⟩ := fns.f_Writer_init
  have GI : FnR P w K mg base (L2.CX P w) 7 (ma K (ga K "Writer") "__init__") (spWr K) := ok_wri FI T (pdefs fns) fns
  refine F.ok scLw (fun vs H Q E h => ?_) (fun cdv A outer s H vs Q E hr h => ?_)
  · obtain ⟨_, _, _, _, rfl, _⟩ := h
    rfl
  refine ⟨_, pss_cons (ps_if (pt_cmpR op_eq (pe_callB call_len_seq (by rfl) T.g_len boot_len (pa_cons (pv 1) pa_nil)) pe_int (nomark _)) (pss_one (ps_ret (StX.pe_makeR T.mk_Writer GI hr (by rfl) T.m_Writer (pass_c (takes_of rfl rfl rfl rfl)) (pa_cons (pv 0) (pa_cons (pe_ix ix_list (pv 1) pe_int (fun _ _ => rfl)) pa_nil))))) pss_nil)
    (pss_cons (ps_if (pt_cmpR op_eq (pe_callB call_len_seq (by rfl) T.g_len boot_len (pa_cons (pv 1) pa_nil)) pe_int (nomark _)) (pss_one (ps_ret (StX.pe_makeR T.mk_Writer GI hr (by rfl) T.m_Writer (pass_c (takes_of rfl rfl rfl rfl)) (pa_cons (pv 0) (pa_cons (pe_ix ix_list (pv 1) pe_int (fun _ _ => rfl)) (pa_cons (pe_ix ix_list (pv 1) pe_int (fun _ _ => rfl)) pa_nil)))))) pss_nil)
    (pss_one (ps_ret (StX.pe_makeR T.mk_Writer GI hr (by rfl) T.m_Writer (pass_c (takes_of rfl rfl rfl rfl)) (pa_cons (pv 0) (pa_cons (pe_ix ix_list (pv 1) pe_int (fun _ _ => rfl)) (pa_cons (pe_ix ix_list (pv 1) pe_int (fun _ _ => rfl)) (pa_cons (pe_ix ix_list (pv 1) pe_int (fun _ _ => rfl)) pa_nil)))))))), ?_⟩
  obtain ⟨l, z, xs, ds, rfl, hl, ok⟩ := h
  have mk := mk_wr ok
  obtain ⟨_, _, _, ⟨l1, l2⟩, _⟩ := ok
  have cs := three l1 l2
  rcases cs with ⟨x0, rfl⟩ | ⟨x0, x1, rfl⟩ | ⟨x0, x1, x2, rfl⟩
  · refine ⟨_, rfl, l, _, rfl, .inl hl, rfl, _, rfl, ?_⟩
    rw [dec_int]
    refine iteT ⟨_, rfl, _, rfl, l, _, 0, _, rfl, rfl, hl, rfl, ?_⟩
    exact mk
  · refine ⟨_, rfl, l, _, rfl, .inl hl, rfl, _, rfl, ?_⟩
    rw [dec_int]
    refine iteF ⟨_, rfl, l, _, rfl, .inl hl, rfl, _, rfl, ?_⟩
    rw [dec_int]
    refine iteT ⟨_, rfl, _, rfl, l, _, 0, _, rfl, rfl, hl, rfl, _, rfl, l, _, 1, _, rfl, rfl, hl, rfl, ?_⟩
    exact mk
  · refine ⟨_, rfl, l, _, rfl, .inl hl, rfl, _, rfl, ?_⟩
    rw [dec_int]
    refine iteF ⟨_, rfl, l, _, rfl, .inl hl, rfl, _, rfl, ?_⟩
    rw [dec_int]
    refine iteF ⟨_, rfl, _, rfl, l, _, 0, _, rfl, rfl, hl, rfl, _, rfl, l, _, 1, _, rfl, rfl, hl, rfl, _, rfl, l, _, 2, _, rfl, rfl, hl, rfl, ?_⟩
    exact mk
end
end K09

set_option maxRecDepth 100000
set_option maxHeartbeats 4000000
namespace K09
open PySem PySem.Spec PyProof.Rows L2 He VH
abbrev sDraw : Stmt := top 57
abbrev nDraw : List Str := ["_law_well_here", "_law_much", "_law_digit", "_law_blend"]
section
variable {P : Program} {w : World} {K : PySem.W.Frag} {mg : Str → Option Value} {base : Heap} {f : Addr} {fd : FuncData}
theorem scDraw : FnScope nDraw ["_law_well_here", "_law_much"] (defScope sDraw) := ⟨rfl, rfl, rfl, by decide +kernel, rfl, by decide +kernel, by decide +kernel⟩
theorem ok_draw (F : FnP K "_law_draw" sDraw f fd) (gI : mg "int" = none) : FnOk P w K mg base CX0 1 f fd ["_law_well_here", "_law_much"] spDraw := by
  refine F.ok scDraw (fun vs H Q E h => ?_) (fun cdv A outer s H vs Q E hr h => ?_)
  · obtain ⟨a, m, rfl, _⟩ := h
    rfl
  refine ⟨_, PSs.nox (pss_cons (ps_if (pt_cmpR op_gt (pe_ix ix_list (pv 0) pe_int (fun _ _ => rfl)) pe_int (nomark _))
      (pss_cons (ps_set (i := 2) scDraw.nd rfl (Or.inl rfl) (pe_op op_modN (pe_callTy call_int1 (by rfl) gI boot_int (pa_cons (pe_ix ix_list (pv 0) pe_int (fun _ _ => rfl)) pa_nil)) (pv 1)))
      (pss_cons (ps_asg (pe_op op_fdivN (pe_ix ix_list (pv 0) pe_int (fun _ _ => rfl)) (pv 1)) (pg_sub (pv 0) pe_int set_list))
      (pss_one (ps_ret (pv 2))))) pss_nil)
      (pss_cons (ps_asg (pe_op op_add (pe_ix ix_list (pv 0) pe_int (fun _ _ => rfl)) pe_int) (pg_sub (pv 0) pe_int set_list))
      (pss_cons (ps_set (i := 3) scDraw.nd rfl (Or.inl rfl) (pe_op op_modN (pe_callTy call_int1 (by rfl) gI boot_int (pa_cons (pe_op op_mul (pe_op op_add (pe_op op_add (pe_ix ix_list (pv 0) pe_int (fun _ _ => rfl)) (pe_op op_mul pe_int (pe_ix ix_list (pv 0) pe_int (fun _ _ => rfl)))) pe_int) pe_int) pa_nil)) pe_int))
      (pss_cons (ps_set (i := 3) scDraw.nd rfl (Or.inl rfl) (pe_op op_modN (pe_callTy call_int1 (by rfl) gI boot_int (pa_cons (pe_op op_mul (pv 3) (pe_op op_add (pe_op op_fdivN (pv 3) pe_int) pe_int)) pa_nil)) pe_int))
      (pss_one (ps_ret (pe_op op_modN (pe_callTy call_int1 (by rfl) gI boot_int (pa_cons (pe_op op_modN (pe_callTy call_int1 (by rfl) gI boot_int (pa_cons (pe_op op_mul (pv 3) (pe_op op_add (pe_op op_fdivN (pv 3) pe_int) pe_int)) pa_nil)) pe_int) pa_nil)) (pv 1)))))))), ?_⟩
  · obtain ⟨a, m, rfl, ⟨c, b, n, ha⟩, m0, m1, k⟩ := h
    have iL : ∀ {H' : Hp} {l : List V}, H' a = some (.lst l) → SqL K H' a l := fun h => SqL.of h
    refine ⟨_, rfl, a, _, 0, _, rfl, rfl, iL ha, by rfl, _, _, rfl, rfl, _, rfl, ?_⟩
    refine ite2 (fun _ => ?_) (fun _ => ?_)
    · refine ⟨_, rfl, a, _, 0, _, rfl, rfl, iL ha, by rfl, .inl ⟨_, rfl, ?_⟩⟩
      refine ⟨_, rfl, _, _, rfl, rfl, by omega, ?_⟩
      refine ⟨_, rfl, a, _, 0, _, rfl, rfl, iL ha, by rfl, _, rfl, _, _, rfl, rfl, ⟨by omega, by omega⟩, ?_⟩
      refine ⟨_, rfl, a, _, 0, _, rfl, rfl, ha, by rfl, _, rfl, ?_⟩
      refine k _ _ ?_ ?_ ⟨_, _, _, upd_same⟩ But.upd
      · exact Int.fmod_nonneg_of_pos _ m0
      · exact Int.fmod_lt_of_pos _ m0
    · refine ⟨_, rfl, a, _, 2, _, rfl, rfl, iL ha, by rfl, _, _, rfl, rfl, ?_⟩
      refine ⟨_, rfl, a, _, 2, _, rfl, rfl, ha, by rfl, ?_⟩
      have h2 : upd H a (.lst ([V.int c, V.int b, V.int n].set 2 (V.int (n + 1)))) a = some (.lst [V.int c, V.int b, V.int (n + 1)]) := upd_same
      refine ⟨_, rfl, a, _, 1, _, rfl, rfl, iL h2, by rfl, _, rfl, a, _, 2, _, rfl, rfl, iL h2, by rfl, 40087, _, rfl, rfl, .inl (by decide), ?_⟩
      refine ⟨_, _, rfl, rfl, _, _, rfl, rfl, _, 48271, rfl, rfl, .inr (by decide), .inl ⟨_, rfl, ?_⟩⟩
      refine ⟨_, 2147483647, rfl, rfl, (show (2147483647 : Int) ≠ 0 by decide), ?_⟩
      have l1 := Int.fmod_nonneg_of_pos ((b + 40087 * (n + 1) + 11) * 48271) (show (0 : Int) < 2147483647 by decide)
      have u1 := Int.fmod_lt_of_pos ((b + 40087 * (n + 1) + 11) * 48271) (show (0 : Int) < 2147483647 by decide)
      refine ⟨_, rfl, _, rfl, _, 1021, rfl, rfl, ⟨by decide, by decide⟩, _, 69691, rfl, rfl, _, _, rfl, rfl, .inl (by omega), .inl ⟨_, rfl, ?_⟩⟩
      refine ⟨_, 2147483587, rfl, rfl, (show (2147483587 : Int) ≠ 0 by decide), ?_⟩
      obtain ⟨v2, e2, l2, u2⟩ : ∃ v2 : Int, v2 = ((((b + 40087 * (n + 1) + 11) * 48271).fmod 2147483647) * ((((b + 40087 * (n + 1) + 11) * 48271).fmod 2147483647).fdiv 1021 + 69691)).fmod 2147483587 ∧ 0 ≤ v2 ∧ v2 < 2147483587 :=
        ⟨_, rfl, Int.fmod_nonneg_of_pos _ (by decide), Int.fmod_lt_of_pos _ (by decide)⟩
      have h3 : ∀ {i : Nat}, i = 3 → (List.set (List.set (start nDraw [V.ref a, V.int m]) 3 (some (V.int (((b + 40087 * (n + 1) + 11) * 48271).fmod 2147483647)))) 3 (some (V.int v2)))[i]? = some (some (V.int v2)) := fun e => by subst e; rfl
      subst e2
      refine ⟨_, h3 rfl, _, h3 rfl, _, 2017, rfl, rfl, ⟨by decide, by decide⟩, _, 40699, rfl, rfl, _, _, rfl, rfl, .inl ⟨by omega, by omega⟩, .inl ⟨_, rfl, ?_⟩⟩
      refine ⟨_, 2147483399, rfl, rfl, (show (2147483399 : Int) ≠ 0 by decide), .inl ⟨_, rfl, ?_⟩⟩
      refine ⟨_, rfl, _, _, rfl, rfl, (show m ≠ 0 by omega), ?_⟩
      exact k _ _ (Int.fmod_nonneg_of_pos _ m0) (Int.fmod_lt_of_pos _ m0) ⟨_, _, _, h2⟩ But.upd
end
end K09

set_option maxRecDepth 100000
set_option maxHeartbeats 4000000
namespace K09
open PySem PySem.Spec PyProof.Rows L2 He VH
abbrev sWell : Stmt := top 58
abbrev sOne : Stmt := top 59
theorem rep_ints (n : Nat) : (List.replicate n [V.int 0]).flatten = (List.replicate n (0 : Int)).map V.int := by
  induction n with
  | zero => rfl
  | succ n ih =>
    rw [List.replicate_succ, List.flatten_cons, ih, List.replicate_succ, List.map_cons]
    rfl
theorem cell_is {ns : List Int} {k : Nat} {m : Int} (hm : m = (k : Int) + 1) : ∃ c : Int, atI (ns.map V.int ++ (List.replicate m.toNat [V.int 0]).flatten) (k : Int) = some (V.int c) := by
  have e : m.toNat = k + 1 := by omega
  rw [e, rep_ints, ← List.map_append]
  have lt : k < (ns ++ List.replicate (k + 1) (0 : Int)).length := by
    rw [List.length_append, List.length_replicate]
    omega
  refine ⟨(ns ++ List.replicate (k + 1) (0 : Int))[k], atI_nat ?_⟩
  rw [List.getElem?_map, List.getElem?_eq_getElem lt]
  rfl
section
variable {P : Program} {w : World} {K : PySem.W.Frag} {mg : Str → Option Value} {base : Heap} {f fD : Addr} {fd fdD : FuncData}
theorem scWell : FnScope ["_law_script", "_law_at", "_law_cell"] ["_law_script", "_law_at"] (defScope sWell) := ⟨rfl, rfl, rfl, by decide +kernel, rfl, by decide +kernel, by decide +kernel⟩
theorem ok_well (F : FnP K "_law_well" sWell f fd) (gI : mg "int" = none) : FnOk P w K mg base CX0 1 f fd ["_law_script", "_law_at"] (spWell K) := by
  refine F.ok scWell (fun vs H Q E h => ?_) (fun cdv A outer s H vs Q E hr h => ?_)
  · obtain ⟨a, ns, k, rfl, _⟩ := h
    rfl
  refine ⟨_, PSs.nox (pss_cons (ps_set (i := 2) scWell.nd rfl (Or.inl rfl) (pe_ix ix_list (pe_op op_catR (pv 0) (pe_op op_rep (pe_lst (pa_cons pe_int pa_nil)) (pe_op op_add (pv 1) pe_int))) (pv 1) (fun _ _ => rfl)))
    (pss_one (ps_ret (pe_lst (pa_cons (pe_op op_mul (pv 2) (pe_callTy call_int1 (by rfl) gI boot_int (pa_cons (pe_cmpR op_ge (pv 2) (pe_op op_pow pe_int pe_int) (nomark _)) pa_nil)))
      (pa_cons (pe_op op_add (pe_op op_modN (pe_callTy call_int1 (by rfl) gI boot_int (pa_cons (pv 2) pa_nil)) pe_int) (pe_op op_mul pe_int (pv 1)))
      (pa_cons pe_int pa_nil))))))), ?_⟩
  obtain ⟨a, ns, k, rfl, ha, l1, l2, kk⟩ := h
  refine ⟨_, rfl, by decide, fun p hp => ?_⟩
  refine ⟨_, rfl, _, 1, rfl, rfl, p, _, _, rfl, rfl, upd_same, by omega, by omega, ?_, fun q hq => ?_⟩
  · show 1 * ((k : Int) + 1).toNat ≤ sizeLine
    rw [sizeLine_eq]
    omega
  obtain ⟨c, hc⟩ := cell_is (ns := ns) (k := k) (m := (k : Int) + 1) rfl
  have len2 : (ns.map V.int).length + (List.replicate ((k : Int) + 1).toNat [V.int 0]).flatten.length ≤ sizeLine := by
    rw [rep_ints, List.length_map, List.length_map, List.length_replicate, sizeLine_eq]
    omega
  refine ⟨a, q, _, _, rfl, rfl, ((Same.new hp).trans (Same.new hq)).seq ha, SqL.of upd_same, len2, fun r hr => ?_⟩
  refine ⟨_, rfl, r, _, k, _, rfl, rfl, SqL.of upd_same, hc, ?_⟩
  refine ⟨_, rfl, _, rfl, _, _, rfl, rfl, ⟨by decide, by decide, by decide⟩, _, _, rfl, rfl, .inr ⟨_, rfl, ?_⟩⟩
  refine ⟨_, _, rfl, rfl, .inr ?_, ?_⟩
  · split <;> decide
  refine ⟨_, rfl, .inl ⟨_, rfl, _, _, rfl, rfl, (show (2147483647 : Int) ≠ 0 by decide), ?_⟩⟩
  refine ⟨_, rfl, 7919, _, rfl, rfl, .inl (by decide), _, _, rfl, rfl, ?_⟩
  refine ⟨by show 3 ≤ sizeLine; decide, fun z hz => ?_⟩
  refine kk _ _ ?_ ⟨_, _, _, upd_same⟩ ((((Same.new hp).trans (Same.new hq)).trans (Same.new hr)).trans (Same.new hz))
  exact (((Same.new hp).trans (Same.new hq)).trans (Same.new hr)).free hz
theorem scOne : FnScope ["_law_well_here", "_law_some"] ["_law_well_here", "_law_some"] (defScope sOne) := ⟨rfl, rfl, rfl, by decide +kernel, rfl, by decide +kernel, by decide +kernel⟩
theorem ok_one (F : FnP K "_law_one" sOne f fd) (FD : FnP K "_law_draw" sDraw fD fdD) (gD : mg "_law_draw" = some (.ref fD)) (gI : mg "int" = none) (gL : mg "len" = none) :
    FnOk P w K mg base CX0 2 f fd ["_law_well_here", "_law_some"] (spOne K) := by
  have GD : FnOk P w K mg base CX0 1 fD fdD ["_law_well_here", "_law_much"] spDraw := ok_draw FD gI
  have bD : Binds K fdD ["_law_well_here", "_law_much"] [] := FD.bindsN fun _ _ _ _ _ _ us hl => match us, hl with | [_, _], _ => rfl
  refine F.ok scOne (fun vs H Q E h => ?_) (fun cdv A outer s H vs Q E hr h => ?_)
  · obtain ⟨a, l, xs, rfl, _⟩ := h
    rfl
  refine ⟨_, PSs.nox (pss_one (ps_ret (pe_ix ix_list (pv 1) (pe_call GD hr (by rfl) gD FD.kp bD .nil pass0 (pa_cons (pv 0) (pa_cons (pe_callB call_len_seq (by rfl) gL boot_len (pa_cons (pv 1) pa_nil)) pa_nil))) (fun _ _ => rfl)))), ?_⟩
  obtain ⟨a, l, xs, rfl, wl, ne, hl, x0, x1, k⟩ := h
  refine ⟨_, rfl, _, rfl, _, rfl, l, xs, rfl, .inl (SqL.of hl), ?_⟩
  refine ⟨a, (xs.length : Int), rfl, wl, by omega, by omega, fun H' d d0 d1 w2 bt => ?_⟩
  obtain ⟨x, hx, ex⟩ := atI_some (xs := xs) d0 d1
  exact ⟨l, xs, d, x, rfl, rfl, SqL.of (bt _ _ ne hl), ex, k H' x hx w2 bt⟩
end
end K09

set_option maxRecDepth 100000
set_option maxHeartbeats 4000000
namespace K09
open PySem PySem.Spec PyProof.Rows L2 He VH RZ
/-! drawn parts of lists of words -/
theorem _root_.L2.Well.same {a : Addr} {H H' : Hp} (w : Well H a) (s : Same H H') : Well H' a := by
  obtain ⟨c, b, n, w⟩ := w
  exact ⟨c, b, n, s _ _ w⟩
theorem _root_.L2.Well.new {a t : Addr} {H : Hp} (w : Well H a) (n : H t = none) : t ≠ a := fun z => by
  obtain ⟨_, _, _, w⟩ := w
  rw [z, w] at n
  cases n
theorem sub_wds {cs ws : List Str} (h : cs.Sublist ws) (nd : ws.Nodup) : wdsOk cs ws = true := by
  unfold wdsOk
  have key : ws.filter cs.contains = cs := by
    induction h with
    | slnil => rfl
    | cons a h ih =>
      rename_i l1 l2
      obtain ⟨na, nd⟩ := List.nodup_cons.mp nd
      have : l1.contains a = false := by
        rw [← Bool.not_eq_true, List.contains_iff_mem]
        exact fun m => na (h.subset m)
      rw [List.filter_cons, this]
      exact ih nd
    | cons_cons a h ih =>
      rename_i l1 l2
      obtain ⟨na, nd⟩ := List.nodup_cons.mp nd
      rw [List.filter_cons, show (a :: l1).contains a = true by simp]
      rw [if_pos rfl]
      congr 1
      refine Eq.trans (List.filter_congr fun x hx => ?_) (ih nd)
      have ne : x ≠ a := fun e => na (e ▸ hx)
      rw [List.contains_cons, beq_eq_false_iff_ne.mpr ne, Bool.false_or]
  rw [key]
  rw [Bool.and_eq_true]
  refine ⟨List.all_eq_true.mpr fun x hx => List.contains_iff_mem.mpr (h.subset hx), decide_eq_true rfl⟩
abbrev sPrt : Stmt := top 66
abbrev sCks : Stmt := top 61
abbrev FnPrt (K : PySem.W.Frag) (fd : FuncData) : Prop := FnP K "_law_part" sPrt (ga K "_law_part") fd
abbrev FnCks (K : PySem.W.Frag) (fd : FuncData) : Prop := FnP K "_law_checks" sCks (ga K "_law_checks") fd
abbrev FnDrw (K : PySem.W.Frag) (fd : FuncData) : Prop := FnP K "_law_draw" sDraw (ga K "_law_draw") fd
abbrev FnOne (K : PySem.W.Frag) (fd : FuncData) : Prop := FnP K "_law_one" sOne (ga K "_law_one") fd
theorem bPrt {K : PySem.W.Frag} {fd : FuncData} (F : FnPrt K fd) : Binds K fd ["_law_well_here", "_law_words"] [] := FunD.bindsN F fun _ _ _ _ _ _ us hl => match us, hl with | [_, _], _ => rfl
theorem bCks {K : PySem.W.Frag} {fd : FuncData} (F : FnCks K fd) : Binds K fd ["_law_well_here", "_law_behind"] [] := FunD.bindsN F fun _ _ _ _ _ _ us hl => match us, hl with | [_, _], _ => rfl
theorem bDrw {K : PySem.W.Frag} {fd : FuncData} (F : FnDrw K fd) : Binds K fd ["_law_well_here", "_law_much"] [] := FunD.bindsN F fun _ _ _ _ _ _ us hl => match us, hl with | [_, _], _ => rfl
theorem bOne {K : PySem.W.Frag} {fd : FuncData} (F : FnOne K fd) : Binds K fd ["_law_well_here", "_law_some"] [] := FunD.bindsN F fun _ _ _ _ _ _ us hl => match us, hl with | [_, _], _ => rfl
def spPrt (K : PySem.W.Frag) : Sp := fun vs H Q _ => ∃ (a l : Addr) (ws : List Str), vs = [.ref a, .ref l] ∧ Well H a ∧ H l = some (.lst (ws.map V.str)) ∧ l ≠ a ∧ ws.length ≤ 1000 ∧
  ∀ (cs : List Str) (H' : Hp) (p : Addr), cs.Sublist ws → Well H' a → But a H H' → SqT K H' p (cs.map V.str) → Q (.ref p) H'
section
variable {P : Program} {w : World} {K : PySem.W.Frag} {mg : Str → Option Value} {base : Heap} {f : Addr} {fd fdD : FuncData}
abbrev nPrt : List Str := ["_law_well_here", "_law_words", "_law_word"]
theorem scPrt : FnScope nPrt ["_law_well_here", "_law_words"] (defScope sPrt) := ⟨rfl, rfl, rfl, by decide +kernel, rfl, by decide +kernel, by decide +kernel⟩
theorem But.sub {a D : Addr} {H G G2 : Hp} {u : HO} (b : But a H G) (nD : H D = none) (c : But a G G2) : But a H (upd G2 D u) := fun x o n e => by
  rw [upd_ne (ne_of_none e nD)]
  exact c x o n (b x o n e)
/-- a word is drawn, or not -/
theorem word_step {H G : Hp} {a D : Addr} {ws cs : List Str} {n : Nat} {u : Str} {G2 : Hp} (nD : H D = none) (na : D ≠ a) (lw : ws.length ≤ 1000) (hu : ws[n]? = some u) (bG : But a H G) (hD : G D = some (.lst (cs.map V.str))) (sub : cs.Sublist (ws.take n)) (w2 : Well G2 a) (b2 : But a G G2) :
    (∃ acc, G2 D = some (.lst acc) ∧ acc.length < sizeLine ∧ Well (upd G2 D (.lst (acc ++ [.str u]))) a ∧ But a H (upd G2 D (.lst (acc ++ [.str u]))) ∧ ∃ cs' : List Str, upd G2 D (.lst (acc ++ [.str u])) D = some (.lst (cs'.map V.str)) ∧ cs'.Sublist (ws.take (n + 1))) ∧
    (Well G2 a ∧ But a H G2 ∧ ∃ cs' : List Str, G2 D = some (.lst (cs'.map V.str)) ∧ cs'.Sublist (ws.take (n + 1))) := by
  have big : 1000 < sizeLine := by decide
  have tk : ws.take (n + 1) = ws.take n ++ [u] := by rw [List.take_succ, hu]; rfl
  have hD2 := b2 _ _ na hD
  refine ⟨⟨_, hD2, ?_, ?_, But.sub bG nD b2, cs ++ [u], ?_, ?_⟩, w2, bG.trans b2, cs, hD2, ?_⟩
  · have := sub.length_le
    rw [List.length_take] at this
    rw [List.length_map]
    omega
  · obtain ⟨x, y, z, e⟩ := w2
    exact ⟨x, y, z, by rw [upd_ne (Ne.symm na)]; exact e⟩
  · rw [upd_same, List.map_append]
    rfl
  · rw [tk]
    exact sub.append (List.Sublist.refl _)
  · rw [tk]
    exact sub.trans (List.sublist_append_left _ _)
theorem ok_prt (F : FnP K "_law_part" sPrt f fd) (T : Txt K mg w) (FD : FnDrw K fdD) : FnOk P w K mg base CX0 2 f fd ["_law_well_here", "_law_words"] (spPrt K) := by
  have GD : FnOk P w K mg base CX0 1 (ga K "_law_draw") fdD ["_law_well_here", "_law_much"] spDraw := ok_draw FD T.g_int
  refine F.ok scPrt (fun vs H Q E h => ?_) (fun cdv A outer s H vs Q E hr h => ?_)
  · obtain ⟨_, _, _, rfl, _⟩ := h
    rfl
  refine ⟨_, PSs.nox (pss_one (ps_ret (pe_callTy call_tupS (by rfl) T.g_tuple boot_tuple (pa_cons (pe_lc (own := [("_law_word", 2)]) (g := gName 2) (tt := tTest (tOp rEq (tCall spDraw [] E0 (tCons (tVar 0) (tCons (tC (.int 2)) tNil))) (tC (.int 0)))) (te := tVar 2) rfl scPrt.nd (pi_list (pv 1)) (blkOk_by (N := nPrt) (sc := defScope sPrt) (by decide +kernel))
      (fun _ _ _ _ _ => pg_name (i := 2) scPrt.nd rfl (Or.inl rfl)) (fun _ _ _ _ _ => pts_one (pt_cmpR op_eq (pe_call GD (hr.mono (by decide)) (by rfl) T.m_l_draw FD.kp (bDrw FD) .nil pass0 (pa_cons (pv 0) (pa_cons pe_int pa_nil))) pe_int (nomark _))) (fun _ _ _ _ _ => pv 2)) pa_nil)))), ?_⟩
  obtain ⟨a, l, ws, rfl, wl, hl, nl, lw, k⟩ := h
  refine ⟨_, rfl, l, rfl, ⟨_, SqL.of hl⟩, fun D nD => ?_⟩
  have na := wl.new nD
  have S0 := Same.new (o := .lst []) nD
  refine lc_list (K := K) (xs := ws.map V.str) (fun n G => Well G a ∧ But a H G ∧ ∃ cs : List Str, G D = some (.lst (cs.map V.str)) ∧ cs.Sublist (ws.take n)) ⟨wl.same S0, But.of S0, [], upd_same, by simp⟩ (fun n G _ g => SqL.of (g.2.1 _ _ nl hl)) (fun n x G hx g => ?_) (fun G g => ?_)
  · obtain ⟨wG, bG, cs, hD, sub⟩ := g
    rw [List.getElem?_map] at hx
    obtain ⟨u, hu, rfl⟩ := Option.map_eq_some_iff.mp hx
    refine ⟨rfl, _, rfl, a, 2, rfl, wG, by decide, by decide, fun G2 d d0 d1 w2 b2 => ?_⟩
    obtain ⟨yes, no⟩ := word_step nD na lw hu bG hD sub w2 b2
    refine ⟨rfl, _, rfl, ?_⟩
    by_cases e : d = 0
    · rw [show decide (V.int d = V.int 0) = true by simp [e]]
      exact iteT ⟨_, rfl, yes⟩
    · rw [show decide (V.int d = V.int 0) = false by simp [e]]
      exact iteF no
  · obtain ⟨wG, bG, cs, hD, sub⟩ := g
    rw [List.length_map, List.take_length] at sub
    exact ⟨D, _, rfl, .inl (SqL.of hD), fun t G' S ht => k cs G' t sub (wG.same S) (bG.trans (But.of S)) ht⟩
end
end K09

set_option maxRecDepth 100000
set_option maxHeartbeats 4000000
namespace K09
open PySem PySem.Spec PyProof.Rows L2 He VH RZ
/-! drawn checks -/
/-- checks that may stand there -/
abbrev ckW (b : Bool) : List Str := if b then ["missing", "same old", "same new"] else ["missing"]
def spCks (K : PySem.W.Frag) : Sp := fun vs H Q _ => ∃ (a : Addr) (b : Bool), vs = [.ref a, .bl b] ∧ Well H a ∧
  ∀ (cs : List Str) (H' : Hp) (p : Addr), cs.Sublist (ckW b) → Well H' a → But a H H' → H' p = some (.tup (cs.map V.str)) → Q (.ref p) H'
/-- tuple(a list): a new tuple -/
def rTupN (K : PySem.W.Frag) : List V → Hp → VK → Prop := fun xs H Q => ∃ (a : Addr) (ys : List V), xs = [.ref a] ∧ SqL K H a ys ∧ ∀ t, H t = none → Q (.ref t) (upd H t (.tup ys))
theorem call_tupN {X : Cx} : CallR X (.type "tuple") (rTupN X.K) := by
  intro pins s σ H xs us Q I r h
  obtain ⟨a, ys, rfl, hv, k⟩ := h
  exact call_tuple_of pins s σ H _ us Q I r ⟨a, ys, rfl, .inl ⟨hv, k⟩⟩
section
variable {P : Program} {w : World} {K : PySem.W.Frag} {mg : Str → Option Value} {base : Heap} {f : Addr} {fd fdD : FuncData}
abbrev nCks : List Str := ["_law_well_here", "_law_behind", "_law_words", "_law_word"]
theorem scCks : FnScope nCks ["_law_well_here", "_law_behind"] (defScope sCks) := ⟨rfl, rfl, rfl, by decide +kernel, rfl, by decide +kernel, by decide +kernel⟩
theorem ok_cks (F : FnP K "_law_checks" sCks f fd) (T : Txt K mg w) (FD : FnDrw K fdD) : FnOk P w K mg base CX0 2 f fd ["_law_well_here", "_law_behind"] (spCks K) := by
  have GD : FnOk P w K mg base CX0 1 (ga K "_law_draw") fdD ["_law_well_here", "_law_much"] spDraw := ok_draw FD T.g_int
  refine F.ok scCks (fun vs H Q E h => ?_) (fun cdv A outer s H vs Q E hr h => ?_)
  · obtain ⟨_, _, rfl, _⟩ := h
    rfl
  refine ⟨_, PSs.nox (pss_cons (ps_set (i := 2) scCks.nd rfl (Or.inl rfl) (pe_slice sl_list (pe_lst (pa_cons pe_str (pa_cons pe_str (pa_cons pe_str pa_nil)))) po_none (po_some (pe_op op_add pe_int (pe_op op_mul pe_int (pe_callTy call_int1 (by rfl) T.g_int boot_int (pa_cons (pv 1) pa_nil)))))))
    (pss_one (ps_ret (pe_callTy call_tupN (by rfl) T.g_tuple boot_tuple (pa_cons (pe_lc (own := [("_law_word", 3)]) (g := gName 3) (tt := tTest (tOp rEq (tCall spDraw [] E0 (tCons (tVar 0) (tCons (tC (.int 4)) tNil))) (tC (.int 0)))) (te := tVar 3) rfl scCks.nd (pi_list (pv 2)) (blkOk_by (N := nCks) (sc := defScope sCks) (by decide +kernel))
      (fun _ _ _ _ _ => pg_name (i := 3) scCks.nd rfl (Or.inl rfl)) (fun _ _ _ _ _ => pts_one (pt_cmpR op_eq (pe_call GD (hr.mono (by decide)) (by rfl) T.m_l_draw FD.kp (bDrw FD) .nil pass0 (pa_cons (pv 0) (pa_cons pe_int pa_nil))) pe_int (nomark _))) (fun _ _ _ _ _ => pv 3)) pa_nil))))), ?_⟩
  obtain ⟨a, b, rfl, wl, k⟩ := h
  refine ⟨(show 3 ≤ sizeLine by decide), fun l0 n0 => ?_⟩
  have S1 := Same.new (o := .lst [.str "missing", .str "same old", .str "same new"]) n0
  refine ⟨_, rfl, .inr ⟨b, rfl, _, _, rfl, rfl, .inl ⟨by decide, by decide⟩, _, _, rfl, rfl, _, rfl, l0, _, rfl, SqL.of upd_same, fun l n1 => ?_⟩⟩
  have S2 := S1.trans (Same.new (o := .lst (cutV [.str "missing", .str "same old", .str "same new"] none (some (1 + 2 * (if b then 1 else 0))))) n1)
  have ec : cutV [.str "missing", .str "same old", .str "same new"] none (some (1 + 2 * (if b then 1 else 0))) = (ckW b).map V.str := by cases b <;> rfl
  rw [ec] at S2 ⊢
  have hl : upd (upd H l0 (.lst [.str "missing", .str "same old", .str "same new"])) l (.lst ((ckW b).map V.str)) l = some (.lst ((ckW b).map V.str)) := upd_same
  have nl : l ≠ a := (wl.same S1).new n1
  generalize upd (upd H l0 (.lst [.str "missing", .str "same old", .str "same new"])) l (.lst ((ckW b).map V.str)) = G0 at S2 hl ⊢
  have wl := wl.same S2
  have lw : (ckW b).length ≤ 1000 := by cases b <;> decide
  generalize ckW b = ws at k hl lw
  refine ⟨_, rfl, l, rfl, ⟨_, SqL.of hl⟩, fun D nD => ?_⟩
  have na := wl.new nD
  have S0 := Same.new (o := .lst []) nD
  refine lc_list (K := K) (xs := ws.map V.str) (fun n G => Well G a ∧ But a G0 G ∧ ∃ cs : List Str, G D = some (.lst (cs.map V.str)) ∧ cs.Sublist (ws.take n)) ⟨wl.same S0, But.of S0, [], upd_same, by simp⟩ (fun n G _ g => SqL.of (g.2.1 _ _ nl hl)) (fun n x G hx g => ?_) (fun G g => ?_)
  · obtain ⟨wG, bG, cs, hD, sub⟩ := g
    rw [List.getElem?_map] at hx
    obtain ⟨u, hu, rfl⟩ := Option.map_eq_some_iff.mp hx
    refine ⟨rfl, _, rfl, a, 4, rfl, wG, by decide, by decide, fun G2 d d0 d1 w2 b2 => ?_⟩
    obtain ⟨yes, no⟩ := word_step nD na lw hu bG hD sub w2 b2
    refine ⟨rfl, _, rfl, ?_⟩
    by_cases e : d = 0
    · rw [show decide (V.int d = V.int 0) = true by simp [e]]
      exact iteT ⟨_, rfl, yes⟩
    · rw [show decide (V.int d = V.int 0) = false by simp [e]]
      exact iteF no
  · obtain ⟨wG, bG, cs, hD, sub⟩ := g
    rw [List.length_map, List.take_length] at sub
    refine ⟨D, _, rfl, SqL.of hD, fun t nt => ?_⟩
    have S := Same.new (o := .tup (cs.map V.str)) nt
    exact k cs _ t sub (wG.same S) (((But.of S2).trans bG).trans (But.of S)) upd_same
end
end K09

set_option maxRecDepth 100000
set_option maxHeartbeats 4000000
namespace K09
open PySem PySem.Spec PyProof.Rows L2 He VH RZ
/-! a drawn step -/
abbrev sStp : Stmt := top 62
abbrev FnStp (K : PySem.W.Frag) (fd : FuncData) : Prop := FnP K "_law_step" sStp (ga K "_law_step") fd
theorem bStp {K : PySem.W.Frag} {fd : FuncData} (F : FnStp K fd) : Binds K fd ["_law_well_here", "_law_behind"] [] := FunD.bindsN F fun _ _ _ _ _ _ us hl => match us, hl with | [_, _], _ => rfl
/-- a statement that may stand there -/
def stB (b : Bool) (s : Stp) : Bool := s.ok && (b || !hasW s rdW)
def spStp (K : PySem.W.Frag) : Sp := fun vs H Q _ => ∃ (a : Addr) (b : Bool), vs = [.ref a, .bl b] ∧ Well H a ∧
  ∀ (s : Stp) (H' : Hp) (p : Addr), stB b s = true → Well H' a → But a H H' → StAt H' p s → Q (.ref p) H'
/-- those of ckW -/
def subs (b : Bool) : List (List Str) := if b then Ls 3 else [[], ["missing"]]
theorem subs_mem {b : Bool} {cs : List Str} (h : cs.Sublist (ckW b)) : cs ∈ subs b := by
  cases b with
  | true => exact cs_all (sub_wds h (by decide))
  | false =>
    have h : cs.Sublist ["missing"] := h
    have q : ∀ r : List Str, r.Sublist [] → r = [] := fun r h => List.sublist_nil.mp h
    rcases List.sublist_cons_iff.mp h with h1 | ⟨r, e, h2⟩
    · rw [q _ h1]
      exact List.mem_cons_self ..
    · rw [e, q _ h2]
      exact List.mem_cons_of_mem _ (List.mem_cons_self ..)
abbrev oldW (b : Bool) : List Str := if b then ["input", "keep", "input", "read"] else ["input", "keep", "input"]
abbrev newW (b : Bool) : List Str := if b then ["keep", "now", "none", "read", "copy"] else ["keep", "now", "none"]
theorem st_set : ∀ b : Bool, ∀ u ∈ oldW b, ∀ v ∈ newW b, ∀ cs ∈ subs b, stB b ⟨"set", [u, v], cs⟩ = true := by decide +kernel
theorem st_del : ∀ b : Bool, ∀ cs ∈ subs b, stB b ⟨"delete", [], cs⟩ = true := by decide +kernel
theorem st_put : ∀ u ∈ (["none", "now", "read", "copy"] : List Str), ∀ cs ∈ subs true, stB true ⟨"put", [u], cs⟩ = true := by decide +kernel
theorem st_ins : ∀ b : Bool, ∀ u ∈ (["none", "now"] : List Str), stB b ⟨"insert", [u], []⟩ = true := by decide +kernel
section
variable {P : Program} {w : World} {K : PySem.W.Frag} {mg : Str → Option Value} {base : Heap} {f : Addr} {fd fdD fdO fdC : FuncData}
abbrev nStp : List Str := ["_law_well_here", "_law_behind", "_law_way", "_law_old", "_law_fresh"]
theorem scStp : FnScope nStp ["_law_well_here", "_law_behind"] (defScope sStp) := ⟨rfl, rfl, rfl, by decide +kernel, rfl, by decide +kernel, by decide +kernel⟩
theorem ok_stp (F : FnP K "_law_step" sStp f fd) (T : Txt K mg w) (FD : FnDrw K fdD) (FO : FnOne K fdO) (FC : FnCks K fdC) : FnOk P w K mg base CX0 3 f fd ["_law_well_here", "_law_behind"] (spStp K) := by
  have GD : FnOk P w K mg base CX0 1 (ga K "_law_draw") fdD ["_law_well_here", "_law_much"] spDraw := ok_draw FD T.g_int
  have GO : FnOk P w K mg base CX0 2 (ga K "_law_one") fdO ["_law_well_here", "_law_some"] (spOne K) := ok_one FO FD T.m_l_draw T.g_int T.g_len
  have GC : FnOk P w K mg base CX0 2 (ga K "_law_checks") fdC ["_law_well_here", "_law_behind"] (spCks K) := ok_cks FC T FD
  refine F.ok scStp (fun vs H Q E h => ?_) (fun cdv A outer s H vs Q E hr h => ?_)
  · obtain ⟨_, _, rfl, _⟩ := h
    rfl
  refine ⟨_, PSs.nox (pss_cons (ps_set (i := 2) scStp.nd rfl (Or.inl rfl) (pe_call GD (hr.mono (by decide)) (by rfl) T.m_l_draw FD.kp (bDrw FD) .nil pass0 (pa_cons (pv 0) (pa_cons pe_int pa_nil))))
    (pss_cons (ps_if (pt_cmpR op_lt (pv 2) pe_int (nomark _))
      (pss_cons (ps_set (i := 3) scStp.nd rfl (Or.inl rfl) (pe_call GO (hr.mono (by decide)) (by rfl) T.m_l_one FO.kp (bOne FO) .nil pass0 (pa_cons (pv 0) (pa_cons (pe_op op_catR (pe_lst (pa_cons pe_str (pa_cons pe_str (pa_cons pe_str pa_nil)))) (pe_op op_rep (pe_lst (pa_cons pe_str pa_nil)) (pe_callTy call_int1 (by rfl) T.g_int boot_int (pa_cons (pv 1) pa_nil)))) pa_nil))))
      (pss_cons (ps_set (i := 4) scStp.nd rfl (Or.inl rfl) (pe_call GO (hr.mono (by decide)) (by rfl) T.m_l_one FO.kp (bOne FO) .nil pass0 (pa_cons (pv 0) (pa_cons (pe_op op_catR (pe_lst (pa_cons pe_str (pa_cons pe_str (pa_cons pe_str pa_nil)))) (pe_op op_rep (pe_lst (pa_cons pe_str (pa_cons pe_str pa_nil))) (pe_callTy call_int1 (by rfl) T.g_int boot_int (pa_cons (pv 1) pa_nil)))) pa_nil))))
      (pss_one (ps_ret (pe_tup (pa_cons pe_str (pa_cons (pv 3) (pa_cons (pv 4) (pa_cons (pe_call GC (hr.mono (by decide)) (by rfl) T.m_l_checks FC.kp (bCks FC) .nil pass0 (pa_cons (pv 0) (pa_cons (pv 1) pa_nil))) pa_nil))))))))) pss_nil)
    (pss_cons (ps_if (pt_cmpR op_eq (pv 2) pe_int (nomark _)) (pss_one (ps_ret (pe_tup (pa_cons pe_str (pa_cons (pe_call GC (hr.mono (by decide)) (by rfl) T.m_l_checks FC.kp (bCks FC) .nil pass0 (pa_cons (pv 0) (pa_cons (pv 1) pa_nil))) pa_nil))))) pss_nil)
    (pss_cons (ps_if (PW.pt (pw_and (pt_cmpR op_eq (pv 2) pe_int (nomark _)) (pw_and1 (pt_val (pv 1))))) (pss_one (ps_ret (pe_tup (pa_cons pe_str (pa_cons (pe_call GO (hr.mono (by decide)) (by rfl) T.m_l_one FO.kp (bOne FO) .nil pass0 (pa_cons (pv 0) (pa_cons (pe_lst (pa_cons pe_str (pa_cons pe_str (pa_cons pe_str (pa_cons pe_str pa_nil))))) pa_nil)))
      (pa_cons (pe_call GC (hr.mono (by decide)) (by rfl) T.m_l_checks FC.kp (bCks FC) .nil pass0 (pa_cons (pv 0) (pa_cons pe_bl pa_nil))) pa_nil)))))) pss_nil)
    (pss_one (ps_ret (pe_tup (pa_cons pe_str (pa_cons (pe_call GO (hr.mono (by decide)) (by rfl) T.m_l_one FO.kp (bOne FO) .nil pass0 (pa_cons (pv 0) (pa_cons (pe_lst (pa_cons pe_str (pa_cons pe_str pa_nil))) pa_nil))) pa_nil))))))))), ?_⟩
  obtain ⟨a, b, rfl, wl, k⟩ := h
  refine ⟨_, rfl, a, 10, rfl, wl, by decide, by decide, fun H1 d d0 d1 w1 b1 => ?_⟩
  -- one of a list
  have one : ∀ {G : Hp} {ws : List Str} {R : VK}, Well G a → (ws ≠ [] ∧ ws.length ≤ 100) → (∀ (G' : Hp) (u : Str), u ∈ ws → Well G' a → But a G G' → R (.str u) G') → ∀ l, G l = none → spOne K [.ref a, .ref l] (upd G l (.lst (ws.map V.str))) R E0 := fun {G ws R} wG ⟨ne, lw⟩ kk l nl => by
    have S := Same.new (o := .lst (ws.map V.str)) nl
    refine ⟨a, l, _, rfl, wG.same S, wG.new nl, upd_same, ?_, ?_, fun G' x hx w' b' => ?_⟩
    · rw [List.length_map]
      exact List.length_pos_iff.mpr ne
    · rw [List.length_map]
      omega
    · obtain ⟨u, hu, rfl⟩ := List.mem_map.mp hx
      exact kk G' u hu w' ((But.of S).trans b')
  have b64 : -(2 ^ 63) ≤ (if b = true then (1 : Int) else 0) ∧ (if b = true then (1 : Int) else 0) < 2 ^ 63 := by cases b <;> exact ⟨by decide, by decide⟩
  have few : ∀ n : Nat, n ≤ 2 → n * (if b = true then (1 : Int) else 0).toNat ≤ sizeLine := fun n hn => by
    have : 1000 < sizeLine := by decide
    cases b
    · show n * 0 ≤ _
      omega
    · show n * 1 ≤ _
      omega
  refine ⟨_, rfl, _, _, rfl, rfl, _, rfl, ?_⟩
  by_cases c1 : d < 6
  · rw [decide_eq_true c1]
    refine iteT ⟨_, rfl, (show 3 ≤ sizeLine by decide), fun l1 n1 => ⟨(show 1 ≤ sizeLine by decide), fun l2 n2 => ⟨_, rfl, .inr ⟨b, rfl, l2, _, _, rfl, rfl, upd_same, b64.1, b64.2, few 1 (by decide), fun p np => ?_⟩⟩⟩⟩
    have T1 := Same.new (o := .lst [.str "input", .str "keep", .str "input"]) n1
    have T2 := Same.new (o := .lst [.str "read"]) n2
    have T3 := Same.new (o := .lst (List.replicate (if b = true then (1 : Int) else 0).toNat [V.str "read"]).flatten) np
    have S3 := T1.trans (T2.trans T3)
    refine ⟨l1, p, _, _, rfl, rfl, SqL.of ((T2.trans T3) _ _ upd_same), SqL.of upd_same, by cases b <;> exact Nat.le_trans (show _ ≤ 1000 by decide) (by decide), fun q nq => ?_⟩
    rw [show ([.str "input", .str "keep", .str "input"] ++ (List.replicate (if b = true then (1 : Int) else 0).toNat [V.str "read"]).flatten : List V) = (oldW b).map V.str by cases b <;> rfl]
    dsimp only [tNil]
    refine one (ws := oldW b) (w1.same S3) (by cases b <;> exact ⟨List.cons_ne_nil _ _, by decide⟩) (fun G u hu w2 b2 => ?_) q nq
    have B2 := (b1.trans (But.of S3)).trans b2
    clear T1 T2 T3 S3 n1 n2 np nq
    refine ⟨_, rfl, (show 3 ≤ sizeLine by decide), fun l1 n1 => ⟨(show 2 ≤ sizeLine by decide), fun l2 n2 => ⟨_, rfl, .inr ⟨b, rfl, l2, _, _, rfl, rfl, upd_same, b64.1, b64.2, few 2 (by decide), fun p np => ?_⟩⟩⟩⟩
    have T1 := Same.new (o := .lst [.str "keep", .str "now", .str "none"]) n1
    have T2 := Same.new (o := .lst [.str "read", .str "copy"]) n2
    have T3 := Same.new (o := .lst (List.replicate (if b = true then (1 : Int) else 0).toNat [V.str "read", V.str "copy"]).flatten) np
    have S3 := T1.trans (T2.trans T3)
    refine ⟨l1, p, _, _, rfl, rfl, SqL.of ((T2.trans T3) _ _ upd_same), SqL.of upd_same, by cases b <;> exact Nat.le_trans (show _ ≤ 1000 by decide) (by decide), fun q nq => ?_⟩
    rw [show ([.str "keep", .str "now", .str "none"] ++ (List.replicate (if b = true then (1 : Int) else 0).toNat [V.str "read", V.str "copy"]).flatten : List V) = (newW b).map V.str by cases b <;> rfl]
    dsimp only [tNil]
    refine one (ws := newW b) (w2.same S3) (by cases b <;> exact ⟨List.cons_ne_nil _ _, by decide⟩) (fun G3 v hv w3 b3 => ?_) q nq
    have B3 := (B2.trans (But.of S3)).trans b3
    refine ⟨_, rfl, _, rfl, _, rfl, _, rfl, a, b, rfl, w3, fun cs G4 q hc w4 b4 hq => ⟨(show 4 ≤ sizeLine by decide), fun p np => ?_⟩⟩
    have S := Same.new (o := .tup [.str "set", .str u, .str v, .ref q]) np
    refine k ⟨"set", [u, v], cs⟩ _ p (st_set b u hu v hv cs (subs_mem hc)) (w4.same S) ((B3.trans b4).trans (But.of S)) ?_
    unfold StAt
    rw [if_neg (show ¬ (("set" : Str) = "insert") by decide)]
    exact ⟨q, upd_same, S _ _ hq⟩
  rw [decide_eq_false c1]
  refine iteF ⟨_, rfl, rfl, _, rfl, ?_⟩
  by_cases c2 : d = 6
  · rw [show decide (V.int d = V.int 6) = true by simp [c2]]
    refine iteT ⟨_, rfl, _, rfl, a, b, rfl, w1, fun cs G q hc w2 b2 hq => ⟨(show 2 ≤ sizeLine by decide), fun p np => ?_⟩⟩
    have S := Same.new (o := .tup [.str "delete", .ref q]) np
    refine k ⟨"delete", [], cs⟩ _ p (st_del b cs (subs_mem hc)) (w2.same S) ((b1.trans b2).trans (But.of S)) ?_
    unfold StAt
    rw [if_neg (show ¬ (("delete" : Str) = "insert") by decide)]
    exact ⟨q, upd_same, S _ _ hq⟩
  rw [show decide (V.int d = V.int 6) = false by simp [c2]]
  refine iteF ⟨_, rfl, rfl, _, rfl, ?_⟩
  have ins : ∀ G : Hp, Well G a → But a H G → ∀ l, G l = none → spOne K [.ref a, .ref l] (upd G l (.lst [.str "none", .str "now"])) (fun x G' => 2 ≤ sizeLine ∧ ∀ p, G' p = none → Q (.ref p) (upd G' p (.tup [.str "insert", x]))) E0 := fun G wG bG =>
    one (ws := ["none", "now"]) wG ⟨by simp, by decide⟩ fun G' u hu w' b' => ⟨(show 2 ≤ sizeLine by decide), fun p np => by
      have S := Same.new (o := .tup [.str "insert", .str u]) np
      refine k ⟨"insert", [u], []⟩ _ p (st_ins b u hu) (w'.same S) ((bG.trans b').trans (But.of S)) ?_
      unfold StAt
      rw [if_pos rfl]
      exact upd_same⟩
  by_cases c3 : d = 7
  · rw [show decide (V.int d = V.int 7) = true by simp [c3]]
    refine iteT ⟨_, rfl, b, rfl, ?_⟩
    cases b with
    | false =>
      refine iteF ⟨_, rfl, (show 2 ≤ sizeLine by decide), fun l nl => ?_⟩
      dsimp only [tNil]
      exact ins _ w1 b1 l nl
    | true =>
      refine iteT ⟨_, rfl, (show 4 ≤ sizeLine by decide), fun l nl => ?_⟩
      dsimp only [tNil]
      refine one (ws := ["none", "now", "read", "copy"]) w1 ⟨by simp, by decide⟩ (fun G u hu w2 b2 => ?_) l nl
      refine ⟨_, rfl, a, true, rfl, w2, fun cs G3 q hc w3 b3 hq => ⟨(show 3 ≤ sizeLine by decide), fun p np => ?_⟩⟩
      have S := Same.new (o := .tup [.str "put", .str u, .ref q]) np
      refine k ⟨"put", [u], cs⟩ _ p (st_put u hu cs (subs_mem hc)) (w3.same S) (((b1.trans b2).trans b3).trans (But.of S)) ?_
      unfold StAt
      rw [if_neg (show ¬ (("put" : Str) = "insert") by decide)]
      exact ⟨q, upd_same, S _ _ hq⟩
  · rw [show decide (V.int d = V.int 7) = false by simp [c3]]
    refine iteF (iteF ⟨_, rfl, (show 2 ≤ sizeLine by decide), fun l nl => ?_⟩)
    dsimp only [tNil]
    exact ins _ w1 b1 l nl
end
end K09

set_option maxRecDepth 100000
set_option maxHeartbeats 4000000
namespace K09
open PySem PySem.Spec PyProof.Rows L2 He VH RZ
/-! drawn steps -/
abbrev sSts : Stmt := top 63
abbrev FnSts (K : PySem.W.Frag) (fd : FuncData) : Prop := FnP K "_law_steps" sSts (ga K "_law_steps") fd
theorem bSts {K : PySem.W.Frag} {fd : FuncData} (F : FnSts K fd) : Binds K fd ["_law_well_here"] [] := FunD.bindsN F fun _ _ _ _ _ _ us hl => match us, hl with | [_], _ => rfl
/-- tuples stand, whatever becomes of a well -/
theorem but_tup {a b : Addr} {H H' : Hp} {xs : List V} (h : But a H H') (w : Well H a) (e : H b = some (.tup xs)) : H' b = some (.tup xs) := by
  refine h b _ (fun z => ?_) e
  obtain ⟨_, _, _, w⟩ := w
  rw [z, w] at e
  cases e
theorem but_st {a p : Addr} {H H' : Hp} {s : Stp} (h : But a H H') (w : Well H a) (e : StAt H p s) : StAt H' p s := e.same fun _ _ q => but_tup h w q
theorem rd_at {K : PySem.W.Frag} {H : Hp} {p : Addr} (h : H p = some (.tup [.str "read"])) : SdAt K H (.ref p) .read := .tup (SqT.of h) (.cons .str .nil)
theorem st_at {K : PySem.W.Frag} {H : Hp} {p : Addr} {s : Stp} {b : Bool} (h : StAt H p s) (o : stB b s = true) : SdAt K H (.ref p) (.st s) := ⟨p, rfl, h, by
  unfold stB at o
  rw [Bool.and_eq_true] at o
  exact o.1⟩
theorem ok_false {s : Stp} (o : stB false s = true) : hasW s rdW = false := by
  unfold stB at o
  rw [Bool.and_eq_true, Bool.false_or] at o
  simpa using o.2
theorem bad_of {ds : List Sd} (h : ∀ k, k < ds.length → fits ds k = true) : bad ds = none := by
  unfold bad
  rw [find_none]
  exact h
theorem bad1 {s : Stp} (o : stB false s = true) : bad [.st s] = none := bad_of fun k l => match k, l with
  | 0, _ => by
    show ([] : List Sd).any Sd.isR || !hasW s rdW
    rw [ok_false o]
    rfl
theorem bad3 {s t : Stp} (o : stB false s = true) : bad [.st s, .read, .st t] = none := bad_of fun k l => match k, l with
  | 0, _ => by
    show ([] : List Sd).any Sd.isR || !hasW s rdW
    rw [ok_false o]
    rfl
  | 1, _ => rfl
  | 2, _ => rfl
theorem bad2 {s : Stp} : bad [.read, .st s] = none := bad_of fun k l => match k, l with
  | 0, _ => rfl
  | 1, _ => rfl
theorem bad2' {s t : Stp} : bad [.read, .st s, .st t] = none := bad_of fun k l => match k, l with
  | 0, _ => rfl
  | 1, _ => rfl
  | 2, _ => rfl
def spSts (K : PySem.W.Frag) : Sp := fun vs H Q _ => ∃ a : Addr, vs = [.ref a] ∧ Well H a ∧
  ∀ (ds : List Sd) (xs : List V) (H' : Hp) (l : Addr), Well H' a → But a H H' → H l = none → H' l = some (.lst xs) → SdL K H' xs ds → 1 ≤ xs.length → xs.length ≤ 3 → bad ds = none → Q (.ref l) H'
section
variable {P : Program} {w : World} {K : PySem.W.Frag} {mg : Str → Option Value} {base : Heap} {f : Addr} {fd fdD fdO fdC fdS : FuncData}
abbrev nSts : List Str := ["_law_well_here", "_law_way"]
theorem scSts : FnScope nSts ["_law_well_here"] (defScope sSts) := ⟨rfl, rfl, rfl, by decide +kernel, rfl, by decide +kernel, by decide +kernel⟩
theorem ok_sts (F : FnP K "_law_steps" sSts f fd) (T : Txt K mg w) (FS : FnStp K fdS) (FD : FnDrw K fdD) (FO : FnOne K fdO) (FC : FnCks K fdC) : FnOk P w K mg base CX0 4 f fd ["_law_well_here"] (spSts K) := by
  have GD : FnOk P w K mg base CX0 1 (ga K "_law_draw") fdD ["_law_well_here", "_law_much"] spDraw := ok_draw FD T.g_int
  have GS : FnOk P w K mg base CX0 3 (ga K "_law_step") fdS ["_law_well_here", "_law_behind"] (spStp K) := ok_stp FS T FD FO FC
  refine F.ok scSts (fun vs H Q E h => ?_) (fun cdv A outer s H vs Q E hr h => ?_)
  · obtain ⟨_, rfl, _⟩ := h
    rfl
  have cS : ∀ {b : Bool} {p1 p2 p3 p4 : Pos} {j : Nat}, PE (cxOf CX0 P w K mg base nSts "_law_steps" (defScope sSts) f cdv A outer s H E).nox (.Call (.Name "_law_step" p1) [.Name "_law_well_here" p2, .Constant (.bool b) j p3] [] p4) _ := fun {b p1 p2 p3 p4 j} =>
    pe_call GS (hr.mono (by decide)) (by rfl) T.m_l_step FS.kp (bStp FS) .nil pass0 (pa_cons (pv 0) (pa_cons pe_bl pa_nil))
  refine ⟨_, PSs.nox (pss_cons (ps_set (i := 1) scSts.nd rfl (Or.inl rfl) (pe_call GD (hr.mono (by decide)) (by rfl) T.m_l_draw FD.kp (bDrw FD) .nil pass0 (pa_cons (pv 0) (pa_cons pe_int pa_nil))))
    (pss_cons (ps_if (pt_cmpR op_lt (pv 1) pe_int (nomark _)) (pss_one (ps_ret (pe_lst (pa_cons cS pa_nil)))) pss_nil)
    (pss_cons (ps_if (pt_cmpR op_eq (pv 1) pe_int (nomark _)) (pss_one (ps_ret (pe_lst (pa_cons cS (pa_cons (pe_tup (pa_cons pe_str pa_nil)) (pa_cons cS pa_nil)))))) pss_nil)
    (pss_one (ps_ret (pe_op op_catR (pe_lst (pa_cons (pe_tup (pa_cons pe_str pa_nil)) (pa_cons cS pa_nil))) (pe_op op_rep (pe_lst (pa_cons cS pa_nil)) (pe_callTy call_int1 (by rfl) T.g_int boot_int (pa_cons (pe_cmpR op_eq (pv 1) pe_int (nomark _)) pa_nil))))))))), ?_⟩
  obtain ⟨a, rfl, wl, k⟩ := h
  refine ⟨_, rfl, a, 6, rfl, wl, by decide, by decide, fun H1 d d0 d1 w1 b1 => ?_⟩
  have neu : ∀ {G : Hp} {l : Addr}, Well G a → But a H G → G l = none → H l = none := fun {G l} wG bG n => by
    cases e : H l with
    | none => rfl
    | some o =>
      have := bG l o (wG.new n) e
      rw [this] at n
      cases n
  refine ⟨_, rfl, _, _, rfl, rfl, _, rfl, ?_⟩
  by_cases c1 : d < 3
  · rw [decide_eq_true c1]
    refine iteT ⟨_, rfl, a, false, rfl, w1, fun s G2 p ok w2 b2 st => ⟨(show 1 ≤ sizeLine by decide), fun l nl => ?_⟩⟩
    have S := Same.new (o := .lst [.ref p]) nl
    exact k [.st s] [.ref p] _ l (w2.same S) ((b1.trans b2).trans (But.of S)) (neu w2 (b1.trans b2) nl) upd_same (.cons ((st_at st ok).same S) .nil) (Nat.le_of_ble_eq_true rfl) (Nat.le_of_ble_eq_true rfl) (bad1 ok)
  rw [decide_eq_false c1]
  refine iteF ⟨_, rfl, rfl, _, rfl, ?_⟩
  by_cases c2 : d = 3
  · rw [show decide (V.int d = V.int 3) = true by simp [c2]]
    refine iteT ⟨_, rfl, a, false, rfl, w1, fun s G2 p ok w2 b2 st => ⟨(show 1 ≤ sizeLine by decide), fun r nr => ?_⟩⟩
    have S2 := Same.new (o := .tup [.str "read"]) nr
    have hr2 : upd G2 r (.tup [.str "read"]) r = some (.tup [.str "read"]) := upd_same
    have w2' := w2.same S2
    refine ⟨_, rfl, a, true, rfl, w2', fun s3 G3 p3 ok3 w3 b3 st3 => ⟨(show 3 ≤ sizeLine by decide), fun l nl => ?_⟩⟩
    have S := Same.new (o := .lst [.ref p, .ref r, .ref p3]) nl
    have st' := but_st b3 w2' (st.same fun _ _ q => S2 _ _ q)
    have hr3 := but_tup b3 w2' hr2
    have B := ((b1.trans b2).trans (But.of S2)).trans b3
    exact k [.st s, .read, .st s3] [.ref p, .ref r, .ref p3] _ l (w3.same S) (B.trans (But.of S)) (neu w3 B nl) upd_same (.cons ((st_at st' ok).same S) (.cons ((rd_at hr3).same S) (.cons ((st_at st3 ok3).same S) .nil))) (Nat.le_of_ble_eq_true rfl) (Nat.le_of_ble_eq_true rfl) (bad3 ok)
  rw [show decide (V.int d = V.int 3) = false by simp [c2]]
  refine iteF ⟨(show 1 ≤ sizeLine by decide), fun r nr => ?_⟩
  have S2 := Same.new (o := .tup [.str "read"]) nr
  have hr2 : upd H1 r (.tup [.str "read"]) r = some (.tup [.str "read"]) := upd_same
  have w2' := w1.same S2
  refine ⟨_, rfl, a, true, rfl, w2', fun s G3 p ok w3 b3 st => ⟨(show 2 ≤ sizeLine by decide), fun l1 n1 => ?_⟩⟩
  have S3 := Same.new (o := .lst [.ref r, .ref p]) n1
  have hr3 := S3 _ _ (but_tup b3 w2' hr2)
  have st3 := st.same (H' := upd G3 l1 (.lst [.ref r, .ref p])) fun _ _ q => S3 _ _ q
  have h1 : upd G3 l1 (.lst [.ref r, .ref p]) l1 = some (.lst [.ref r, .ref p]) := upd_same
  have w3' := w3.same S3
  have B3 := ((b1.trans (But.of S2)).trans b3).trans (But.of S3)
  have na := w3.new n1
  refine ⟨_, rfl, a, true, rfl, w3', fun s5 G5 p5 ok5 w5 b5 st5 => ⟨(show 1 ≤ sizeLine by decide), fun l2 n2 => ⟨_, rfl, rfl, .inr ⟨decide (V.int d = V.int 5), rfl, l2, _, _, rfl, rfl, upd_same, ?_, ?_, ?_, fun q nq => ?_⟩⟩⟩⟩
  · split <;> decide
  · split <;> decide
  · refine Nat.le_trans (m := 1000) ?_ (by decide)
    show 1 * _ ≤ 1000
    split <;> decide
  have S6 := (Same.new (o := .lst [.ref p5]) n2).trans (Same.new (o := .lst (List.replicate (if decide (V.int d = V.int 5) = true then (1 : Int) else 0).toNat [V.ref p5]).flatten) nq)
  have st5' := st5.same (H' := _) fun _ _ q => S6 _ _ q
  have st6 := but_st (b5.trans (But.of S6)) w3' st3
  have hr6 := but_tup (b5.trans (But.of S6)) w3' hr3
  have h6 := S6 _ _ (b5 l1 _ na h1)
  have B6 := (B3.trans b5).trans (But.of S6)
  have w6 := w5.same S6
  refine ⟨l1, q, _, _, rfl, rfl, SqL.of h6, SqL.of upd_same, ?_, fun l nl => ?_⟩
  · refine Nat.le_trans (m := 1000) ?_ (by decide)
    split <;> exact Nat.le_of_ble_eq_true rfl
  have S := Same.new (o := .lst ([.ref r, .ref p] ++ (List.replicate (if decide (V.int d = V.int 5) = true then (1 : Int) else 0).toNat [V.ref p5]).flatten)) nl
  have g6 : SdL K (upd (upd (upd G5 l2 (.lst [.ref p5])) q (.lst (List.replicate (if decide (V.int d = V.int 5) = true then (1 : Int) else 0).toNat [V.ref p5]).flatten)) l (.lst ([.ref r, .ref p] ++ (List.replicate (if decide (V.int d = V.int 5) = true then (1 : Int) else 0).toNat [V.ref p5]).flatten))) [.ref r, .ref p] [.read, .st s] := .cons ((rd_at hr6).same S) (.cons ((st_at st6 ok).same S) .nil)
  have g7 := (st_at (K := K) st5' ok5).same S
  have hl : upd (upd (upd G5 l2 (.lst [.ref p5])) q (.lst (List.replicate (if decide (V.int d = V.int 5) = true then (1 : Int) else 0).toNat [V.ref p5]).flatten)) l (.lst ([.ref r, .ref p] ++ (List.replicate (if decide (V.int d = V.int 5) = true then (1 : Int) else 0).toNat [V.ref p5]).flatten)) l = some (.lst ([.ref r, .ref p] ++ (List.replicate (if decide (V.int d = V.int 5) = true then (1 : Int) else 0).toNat [V.ref p5]).flatten)) := upd_same
  have B7 := B6.trans (But.of S)
  have w7 := w6.same S
  have n7 := neu w6 B6 nl
  generalize upd (upd (upd G5 l2 (.lst [.ref p5])) q (.lst (List.replicate (if decide (V.int d = V.int 5) = true then (1 : Int) else 0).toNat [V.ref p5]).flatten)) l (.lst ([.ref r, .ref p] ++ (List.replicate (if decide (V.int d = V.int 5) = true then (1 : Int) else 0).toNat [V.ref p5]).flatten)) = G7 at g6 g7 hl B7 w7 ⊢
  by_cases c3 : d = 5
  · rw [show decide (V.int d = V.int 5) = true by simp [c3]] at hl
    cases g6 with
    | cons u1 g6 =>
      cases g6 with
      | cons u2 _ => exact k [.read, .st s, .st s5] [.ref r, .ref p, .ref p5] G7 l w7 B7 n7 hl (.cons u1 (.cons u2 (.cons g7 .nil))) (Nat.le_of_ble_eq_true rfl) (Nat.le_of_ble_eq_true rfl) bad2'
  · rw [show decide (V.int d = V.int 5) = false by simp [c3]] at hl
    exact k [.read, .st s] [.ref r, .ref p] G7 l w7 B7 n7 hl g6 (Nat.le_of_ble_eq_true rfl) (Nat.le_of_ble_eq_true rfl) bad2
end
end K09

set_option maxRecDepth 100000
set_option maxHeartbeats 4000000
namespace K09
open PySem PySem.Spec PyProof.Rows L2 He VH RZ
/-! a drawn Fill -/
abbrev sFil : Stmt := top 65
abbrev FnFil (K : PySem.W.Frag) (fd : FuncData) : Prop := FnP K "_law_filled" sFil (ga K "_law_filled") fd
theorem bFil {K : PySem.W.Frag} {fd : FuncData} (F : FnFil K fd) : Binds K fd ["_law_well_here"] [] := FunD.bindsN F fun _ _ _ _ _ _ us hl => match us, hl with | [_], _ => rfl
def spFil (K : PySem.W.Frag) : Sp := fun vs H Q _ => ∃ a : Addr, vs = [.ref a] ∧ Well H a ∧
  ∀ (c : Addr) (H' : Hp), Well H' a → But a H H' → FlK K H' c → Q (.ref c) H'
theorem fl_put : ∀ u ∈ (["now", "read", "none", "copy"] : List Str), ∀ cs ∈ subs true, (Stp.ok ⟨"put", [u], cs⟩ && Stp.fill ⟨"put", [u], cs⟩) = true := by decide +kernel
theorem fl_set : ∀ u ∈ (["keep", "keep", "read"] : List Str), ∀ v ∈ (["now", "read", "read", "now", "copy", "none", "keep"] : List Str), ∀ cs ∈ subs true, (Stp.ok ⟨"set", [u, v], cs⟩ && Stp.fill ⟨"set", [u, v], cs⟩) = true := by decide +kernel
theorem one_of {K : PySem.W.Frag} {a : Addr} {G : Hp} {ws : List Str} {R : VK} (wG : Well G a) (h : ws ≠ [] ∧ ws.length ≤ 100) (kk : ∀ (G' : Hp) (u : Str), u ∈ ws → Well G' a → But a G G' → R (.str u) G') (l : Addr) (nl : G l = none) : spOne K [.ref a, .ref l] (upd G l (.lst (ws.map V.str))) R E0 := by
  obtain ⟨ne, lw⟩ := h
  have S := Same.new (o := .lst (ws.map V.str)) nl
  refine ⟨a, l, _, rfl, wG.same S, wG.new nl, upd_same, ?_, ?_, fun G' x hx w' b' => ?_⟩
  · rw [List.length_map]
    exact List.length_pos_iff.mpr ne
  · rw [List.length_map]
    omega
  · obtain ⟨u, hu, rfl⟩ := List.mem_map.mp hx
    exact kk G' u hu w' ((But.of S).trans b')
theorem fl_two {s : Stp} (h : (s.ok && s.fill) = true) : s.ok = true ∧ s.fill = true := by
  rwa [Bool.and_eq_true] at h
section
variable {P : Program} {w : World} {K : PySem.W.Frag} {mg : Str → Option Value} {base : Heap} {f : Addr} {fd fdD fdO fdC fdI : FuncData}
abbrev nFil : List Str := ["_law_well_here", "_law_step_here", "_law_fresh", "_law_order", "_law_flags", "_law_turn"]
theorem scFil : FnScope nFil ["_law_well_here"] (defScope sFil) := ⟨rfl, rfl, rfl, by decide +kernel, rfl, by decide +kernel, by decide +kernel⟩
theorem ok_fil (F : FnP K "_law_filled" sFil f fd) (T : Txt K mg w) (fns : Fns K) (FI : FnFlI K fdI) (FD : FnDrw K fdD) (FO : FnOne K fdO) (FC : FnCks K fdC) : FnOk P w K mg base (L2.CX P w) 7 f fd ["_law_well_here"] (spFil K) := by
  obtain ⟨mv, kb⟩ := kFl FI
  have GI : FnOk P w K mg base (L2.CX P w) 5 (ma K (ga K "Fill") "__init__") fdI pFlI (spFlI K) := ok_flI FI T fns
  have GD : FnOk P w K mg base CX0 1 (ga K "_law_draw") fdD ["_law_well_here", "_law_much"] spDraw := ok_draw FD T.g_int
  have GO : FnOk P w K mg base CX0 2 (ga K "_law_one") fdO ["_law_well_here", "_law_some"] (spOne K) := ok_one FO FD T.m_l_draw T.g_int T.g_len
  have GC : FnOk P w K mg base CX0 2 (ga K "_law_checks") fdC ["_law_well_here", "_law_behind"] (spCks K) := ok_cks FC T FD
  refine F.ok scFil (fun vs H Q E h => ?_) (fun cdv A outer s H vs Q E hr h => ?_)
  · obtain ⟨_, rfl, _⟩ := h
    rfl
  have cC : ∀ {b : Bool} {p1 p2 p3 p4 : Pos} {j : Nat}, PE (cxOf (L2.CX P w) P w K mg base nFil "_law_filled" (defScope sFil) f cdv A outer s H E) (.Call (.Name "_law_checks" p1) [.Name "_law_well_here" p2, .Constant (.bool b) j p3] [] p4) _ := fun {b p1 p2 p3 p4 j} =>
    pe_call GC (hr.mono (by decide)) (by rfl) T.m_l_checks FC.kp (bCks FC) .nil pass0 (pa_cons (pv 0) (pa_cons pe_bl pa_nil))
  have cD : ∀ {i : Int} {p1 p2 p3 p4 : Pos} {j : Nat}, PE (cxOf (L2.CX P w) P w K mg base nFil "_law_filled" (defScope sFil) f cdv A outer s H E) (.Call (.Name "_law_draw" p1) [.Name "_law_well_here" p2, .Constant (.int i) j p3] [] p4) _ := fun {i p1 p2 p3 p4 j} =>
    pe_call GD (hr.mono (by decide)) (by rfl) T.m_l_draw FD.kp (bDrw FD) .nil pass0 (pa_cons (pv 0) (pa_cons pe_int pa_nil))
  refine ⟨_, pss_cons (ps_set (i := 1) scFil.nd rfl (Or.inl rfl) (pe_tup (pa_cons pe_str (pa_cons (pe_call GO (hr.mono (by decide)) (by rfl) T.m_l_one FO.kp (bOne FO) .nil pass0 (pa_cons (pv 0) (pa_cons (pe_lst (pa_cons pe_str (pa_cons pe_str (pa_cons pe_str (pa_cons pe_str pa_nil))))) pa_nil))) (pa_cons cC pa_nil)))))
    (pss_cons (ps_if (pt_cmpR op_gt cD pe_int (nomark _))
      (pss_cons (ps_set (i := 2) scFil.nd rfl (Or.inl rfl) (pe_call GO (hr.mono (by decide)) (by rfl) T.m_l_one FO.kp (bOne FO) .nil pass0 (pa_cons (pv 0) (pa_cons (pe_lst (pa_cons pe_str (pa_cons pe_str (pa_cons pe_str (pa_cons pe_str (pa_cons pe_str (pa_cons pe_str (pa_cons pe_str pa_nil)))))))) pa_nil))))
      (pss_one (ps_set (i := 1) scFil.nd rfl (Or.inl rfl) (pe_tup (pa_cons pe_str (pa_cons (pe_call GO (hr.mono (by decide)) (by rfl) T.m_l_one FO.kp (bOne FO) .nil pass0 (pa_cons (pv 0) (pa_cons (pe_lst (pa_cons pe_str (pa_cons pe_str (pa_cons pe_str pa_nil)))) pa_nil))) (pa_cons (pv 2) (pa_cons cC pa_nil)))))))) pss_nil)
    (pss_cons (ps_par (i := 3) (j := 4) rfl scFil.nd rfl rfl (by decide) rfl rfl (pa_cons (pe_call GO (hr.mono (by decide)) (by rfl) T.m_l_one FO.kp (bOne FO) .nil pass0 (pa_cons (pv 0) (pa_cons (pe_lst (pa_cons pe_str (pa_cons pe_str (pa_cons pe_str pa_nil)))) pa_nil)))
       (pa_cons (pe_lc (own := [("_law_turn", 5)]) (g := gName 5) (tt := tYes) (te := tOp rEq (tCall spDraw [] E0 (tCons (tVar 0) (tCons (tC (.int 3)) tNil))) (tC (.int 0))) rfl scFil.nd (pi_range1 (by rfl) T.g_range (pa_cons pe_int pa_nil)) (blkOk_by (N := nFil) (sc := defScope sFil) (by decide +kernel))
          (fun _ _ _ _ _ => pg_name (i := 5) scFil.nd rfl (Or.inl rfl)) (fun _ _ _ _ _ => pts_nil) (fun _ _ _ _ _ => pe_cmpR op_eq (pe_call GD (hr.mono (by decide)) (by rfl) T.m_l_draw FD.kp (bDrw FD) .nil pass0 (pa_cons (pv 0) (pa_cons pe_int pa_nil))) pe_int (nomark _))) pa_nil)) rfl)
    (pss_one (ps_ret (pe_makeK (n := 1) (ks := ["batch", "save", "lock", "only_missing", "falls", "again"]) T.mk_Fill GI (hr.mono (by decide)) (by rfl) T.m_Fill kb (pass_c (takes_of rfl rfl rfl rfl)) (pa_cons (pv 1) pa_nil)
      (pk_cons (pe_op op_add pe_int cD) (pk_cons (pv 3) (pk_cons (pe_ix ix_list (pv 4) pe_int (fun _ _ => rfl)) (pk_cons (pe_ix ix_list (pv 4) pe_int (fun _ _ => rfl)) (pk_cons (pe_ix ix_list (pv 4) pe_int (fun _ _ => rfl)) (pk_cons (pe_ix ix_list (pv 4) pe_int (fun _ _ => rfl)) pk_nil))))))))))), ?_⟩
  obtain ⟨a, rfl, wl, k⟩ := h
  refine ⟨_, rfl, (show 4 ≤ sizeLine by decide), fun l nl => ?_⟩
  dsimp only [tNil]
  refine one_of (ws := ["now", "read", "none", "copy"]) wl ⟨by simp, by decide⟩ (fun G1 u hu w1 b1 => ?_) l nl
  refine ⟨_, rfl, a, true, rfl, w1, fun cs G2 q hc w2 b2 hq => ⟨(show 3 ≤ sizeLine by decide), fun p np => ?_⟩⟩
  have S2 := Same.new (o := .tup [.str "put", .str u, .ref q]) np
  have st : StAt (upd G2 p (.tup [.str "put", .str u, .ref q])) p ⟨"put", [u], cs⟩ := by
    unfold StAt
    rw [if_neg (show ¬ (("put" : Str) = "insert") by decide)]
    exact ⟨q, upd_same, S2 _ _ hq⟩
  have w3 := w2.same S2
  have b3 := (b1.trans b2).trans (But.of S2)
  generalize upd G2 p (.tup [.str "put", .str u, .ref q]) = G3 at st w3 b3 ⊢
  clear S2 hq np nl w1 b1 w2 b2
  refine ⟨_, rfl, a, 5, rfl, w3, by decide, by decide, fun G4 d d0 d1 w4 b4 => ⟨_, _, rfl, rfl, _, rfl, ?_⟩⟩
  have st := but_st b4 w3 st
  have ss := fl_two (fl_put u hu cs (subs_mem hc))
  have B := b3.trans b4
  clear b3 b4 w3
  generalize (⟨"put", [u], cs⟩ : Stp) = sx at st ss
  by_cases c : 0 < d
  · rw [decide_eq_true c]
    refine iteT ⟨_, rfl, (show 7 ≤ sizeLine by decide), fun l nl => ?_⟩
    dsimp only [tNil]
    refine one_of (ws := ["now", "read", "read", "now", "copy", "none", "keep"]) w4 ⟨by simp, by decide⟩ (fun G5 v hv w5 b5 => ?_) l nl
    refine ⟨_, rfl, (show 3 ≤ sizeLine by decide), fun l2 nl2 => ?_⟩
    dsimp only [tNil]
    refine one_of (ws := ["keep", "keep", "read"]) w5 ⟨by simp, by decide⟩ (fun G6 u6 hu6 w6 b6 => ?_) l2 nl2
    refine ⟨_, rfl, _, rfl, a, true, rfl, w6, fun cs6 G7 q6 hc6 w7 b7 hq6 => ⟨(show 4 ≤ sizeLine by decide), fun p6 np6 => ?_⟩⟩
    have S := Same.new (o := .tup [.str "set", .str u6, .str v, .ref q6]) np6
    have st : StAt (upd G7 p6 (.tup [.str "set", .str u6, .str v, .ref q6])) p6 ⟨"set", [u6, v], cs6⟩ := by
      unfold StAt
      rw [if_neg (show ¬ (("set" : Str) = "insert") by decide)]
      exact ⟨q6, upd_same, S _ _ hq6⟩
    have ss := fl_two (fl_set u6 hu6 v hv cs6 (subs_mem hc6))
    have w4 := w7.same S
    have B := (((B.trans b5).trans b6).trans b7).trans (But.of S)
    generalize upd G7 p6 (.tup [.str "set", .str u6, .str v, .ref q6]) = G4 at st w4 B ⊢
    generalize (⟨"set", [u6, v], cs6⟩ : Stp) = sx at st ss
    clear S hq6 np6 b5 b6 b7 w5 w6 w7
    generalize p6 = p at st ⊢
    refine ⟨_, rfl, (show 3 ≤ sizeLine by decide), fun l nl => ?_⟩
    dsimp only [tNil]
    refine one_of (ws := ["last", "last", "first"]) w4 ⟨by simp, by decide⟩ (fun G5 z hz w5 b5 => ?_) l nl
    have st5 := but_st b5 w4 st
    have B5 := B.trans b5
    clear b5 w4 st B
    refine ⟨4, rfl, by decide, by decide, fun D nD => ?_⟩
    have na := w5.new nD
    have S0 := Same.new (o := .lst []) nD
    refine lc_range (lo := 0) (n := 4) (fun i G => Well G a ∧ But a G5 G ∧ ∃ bs : List Bool, bs.length = i ∧ G D = some (.lst (bs.map V.bl))) ⟨w5.same S0, But.of S0, [], rfl, upd_same⟩ (fun i G li g => ?_) (fun G g => ?_)
    · obtain ⟨wG, bG, bs, lb, hD⟩ := g
      refine ⟨rfl, _, rfl, a, 3, rfl, wG, by decide, by decide, fun G2 d d0 d1 w2 b2 => ⟨rfl, ?_⟩⟩
      have hD2 := b2 _ _ na hD
      refine ⟨_, hD2, ?_, ?_, But.sub bG nD b2, bs ++ [decide (V.int d = V.int 0)], by rw [List.length_append, lb]; rfl, ?_⟩
      · rw [List.length_map, lb]
        have : 1000 < sizeLine := by decide
        omega
      · obtain ⟨x, y, zz, e⟩ := w2
        exact ⟨x, y, zz, by rw [upd_ne (Ne.symm na)]; exact e⟩
      · rw [upd_same, List.map_append]
        rfl
    · obtain ⟨wG, bG, bs, lb, hD⟩ := g
      have st6 := but_st bG w5 st5
      have B6 := B5.trans bG
      match bs, lb with
      | [f1, f2, f3, f4], _ =>
      have hD : G D = some (.lst [.bl f1, .bl f2, .bl f3, .bl f4]) := hD
      refine ⟨_, _, rfl, _, rfl, _, rfl, a, 3, rfl, wG, by decide, by decide, fun G8 dd e0 e1 w8 b8 => ⟨_, _, rfl, rfl, ?_⟩⟩
      have hD8 := b8 _ _ na hD
      have st8 := but_st b8 wG st6
      refine ⟨_, rfl, _, rfl, D, _, 0, _, rfl, rfl, SqL.of hD8, rfl, _, rfl, D, _, 1, _, rfl, rfl, SqL.of hD8, rfl, _, rfl, D, _, 2, _, rfl, rfl, SqL.of hD8, rfl, _, rfl, D, _, 3, _, rfl, rfl, SqL.of hD8, rfl, rfl, rfl, fun x dx nx nd ne => ?_⟩
      have T1 := Same.new (o := .own x) nd
      have nx1 : upd G8 dx (.own x) x = none := by rw [upd_ne (Ne.symm ne)]; exact nx
      have T2 := T1.trans (Same.new (o := .ins (ga K "Fill") dx []) nx1)
      refine ⟨x, dx, p, sx, ⟨1 + dd, z, f1, f2, f3, f4⟩, rfl, upd_same, st8.same fun _ _ q => T2 _ _ q, ss.1, ss.2, ⟨by show 1 ≤ 1 + dd; omega, by show 1 + dd ≤ 100; omega, by simpa using hz⟩, fun H' Bx fl => ⟨rfl, ?_⟩⟩
      have T3 : Same G8 H' := But.new ((But.of T1).trans (But.upd.trans Bx)) nx
      exact k x H' (w8.same T3) ((B6.trans b8).trans (But.of T3)) ⟨p, _, _, fl, st8.same fun _ _ q => T3 _ _ q⟩
  · rw [decide_eq_false c]
    refine iteF ?_
    refine ⟨_, rfl, (show 3 ≤ sizeLine by decide), fun l nl => ?_⟩
    dsimp only [tNil]
    refine one_of (ws := ["last", "last", "first"]) w4 ⟨by simp, by decide⟩ (fun G5 z hz w5 b5 => ?_) l nl
    have st5 := but_st b5 w4 st
    have B5 := B.trans b5
    clear b5 w4 st B
    refine ⟨4, rfl, by decide, by decide, fun D nD => ?_⟩
    have na := w5.new nD
    have S0 := Same.new (o := .lst []) nD
    refine lc_range (lo := 0) (n := 4) (fun i G => Well G a ∧ But a G5 G ∧ ∃ bs : List Bool, bs.length = i ∧ G D = some (.lst (bs.map V.bl))) ⟨w5.same S0, But.of S0, [], rfl, upd_same⟩ (fun i G li g => ?_) (fun G g => ?_)
    · obtain ⟨wG, bG, bs, lb, hD⟩ := g
      refine ⟨rfl, _, rfl, a, 3, rfl, wG, by decide, by decide, fun G2 d d0 d1 w2 b2 => ⟨rfl, ?_⟩⟩
      have hD2 := b2 _ _ na hD
      refine ⟨_, hD2, ?_, ?_, But.sub bG nD b2, bs ++ [decide (V.int d = V.int 0)], by rw [List.length_append, lb]; rfl, ?_⟩
      · rw [List.length_map, lb]
        have : 1000 < sizeLine := by decide
        omega
      · obtain ⟨x, y, zz, e⟩ := w2
        exact ⟨x, y, zz, by rw [upd_ne (Ne.symm na)]; exact e⟩
      · rw [upd_same, List.map_append]
        rfl
    · obtain ⟨wG, bG, bs, lb, hD⟩ := g
      have st6 := but_st bG w5 st5
      have B6 := B5.trans bG
      match bs, lb with
      | [f1, f2, f3, f4], _ =>
      have hD : G D = some (.lst [.bl f1, .bl f2, .bl f3, .bl f4]) := hD
      refine ⟨_, _, rfl, _, rfl, _, rfl, a, 3, rfl, wG, by decide, by decide, fun G8 dd e0 e1 w8 b8 => ⟨_, _, rfl, rfl, ?_⟩⟩
      have hD8 := b8 _ _ na hD
      have st8 := but_st b8 wG st6
      refine ⟨_, rfl, _, rfl, D, _, 0, _, rfl, rfl, SqL.of hD8, rfl, _, rfl, D, _, 1, _, rfl, rfl, SqL.of hD8, rfl, _, rfl, D, _, 2, _, rfl, rfl, SqL.of hD8, rfl, _, rfl, D, _, 3, _, rfl, rfl, SqL.of hD8, rfl, rfl, rfl, fun x dx nx nd ne => ?_⟩
      have T1 := Same.new (o := .own x) nd
      have nx1 : upd G8 dx (.own x) x = none := by rw [upd_ne (Ne.symm ne)]; exact nx
      have T2 := T1.trans (Same.new (o := .ins (ga K "Fill") dx []) nx1)
      refine ⟨x, dx, p, sx, ⟨1 + dd, z, f1, f2, f3, f4⟩, rfl, upd_same, st8.same fun _ _ q => T2 _ _ q, ss.1, ss.2, ⟨by show 1 ≤ 1 + dd; omega, by show 1 + dd ≤ 100; omega, by simpa using hz⟩, fun H' Bx fl => ⟨rfl, ?_⟩⟩
      have T3 : Same G8 H' := But.new ((But.of T1).trans (But.upd.trans Bx)) nx
      exact k x H' (w8.same T3) ((B6.trans b8).trans (But.of T3)) ⟨p, _, _, fl, st8.same fun _ _ q => T3 _ _ q⟩
end
end K09

set_option maxRecDepth 100000
set_option maxHeartbeats 4000000
namespace K09
open PySem PySem.Spec PyProof.Rows L2 He VH RZ
/-! drawn names, no two alike -/
theorem name_of {z : Str} {cs : List Nat} (e : z.cps.toList = cs) (l1 : 1 ≤ cs.length) (l2 : cs.length ≤ 12) (a : ∀ c ∈ cs, c ∈ LET.cps.toList) : nameB z = true := by
  have ln : z.length = cs.length := by
    rw [← e, Array.length_toList]
    rfl
  unfold nameB
  rw [ln, e, decide_eq_true (by omega), decide_eq_true (by omega), List.all_eq_true.mpr fun c hc => decide_eq_true (a c hc)]
  rfl
theorem mem_sgns {x : V} {z : Str} (h : x ∈ (sgns z).map V.str) : ∃ c, c ∈ z.cps.toList ∧ x = .str (sgn c) := by
  obtain ⟨y, hy, rfl⟩ := List.mem_map.mp h
  obtain ⟨c, hc, rfl⟩ := List.mem_map.mp hy
  exact ⟨c, hc, rfl⟩
theorem let_nd : LET.cps.toList.Nodup ∧ LET.cps.toList.length = 26 := by decide +kernel
abbrev sTit : Stmt := top 64
abbrev FnTit (K : PySem.W.Frag) (fd : FuncData) : Prop := FnP K "_law_titles" sTit (ga K "_law_titles") fd
theorem bTit {K : PySem.W.Frag} {fd : FuncData} (F : FnTit K fd) : Binds K fd ["_law_well_here", "_law_many"] [] := FunD.bindsN F fun _ _ _ _ _ _ us hl => match us, hl with | [_, _], _ => rfl
/-- the k-th name from b on -/
def Nth (b : Int) (k : Nat) (z : Str) : Prop := nameB z = true ∧ ∃ c, z.cps.toList.head? = some c ∧ atI LET.cps.toList ((b + 11 * k).fmod 26) = some c
/-- the first letter -/
def fst1 (z : Str) : Option Nat := z.cps.toList.head?
theorem nth_hd {b : Int} {zs : List Str} (b0 : 0 ≤ b) (l : zs.length ≤ 20) (h : ∀ (k : Nat) (z : Str), zs[k]? = some z → Nth b k z) : (zs.map fst1).Nodup := by
  unfold List.Nodup
  rw [List.pairwise_map, List.pairwise_iff_getElem]
  intro i j hi hj lt e
  obtain ⟨_, c, e1, a1⟩ := h i _ (List.getElem?_eq_getElem hi)
  obtain ⟨_, c', e2, a2⟩ := h j _ (List.getElem?_eq_getElem hj)
  rw [show zs[j].cps.toList.head? = zs[i].cps.toList.head? from e.symm, e1] at e2
  cases e2
  rw [Int.fmod_eq_emod_of_nonneg _ (by decide)] at a1 a2
  obtain ⟨nd, l26⟩ := let_nd
  have r1 : 0 ≤ (b + 11 * (i : Int)) % 26 ∧ (b + 11 * (i : Int)) % 26 < 26 := by omega
  have r2 : 0 ≤ (b + 11 * (j : Int)) % 26 ∧ (b + 11 * (j : Int)) % 26 < 26 := by omega
  obtain ⟨m, em⟩ : ∃ m : Nat, (b + 11 * (i : Int)) % 26 = (m : Int) := ⟨_, (Int.toNat_of_nonneg r1.1).symm⟩
  obtain ⟨n, en⟩ : ∃ n : Nat, (b + 11 * (j : Int)) % 26 = (n : Int) := ⟨_, (Int.toNat_of_nonneg r2.1).symm⟩
  rw [em] at a1
  rw [en] at a2
  have lm : m < LET.cps.toList.length := by omega
  have ln : n < LET.cps.toList.length := by omega
  rw [atI_nat (List.getElem?_eq_getElem lm)] at a1
  rw [atI_nat (List.getElem?_eq_getElem ln)] at a2
  have : m ≠ n := by omega
  have q := (List.pairwise_iff_getElem.mp (show LET.cps.toList.Pairwise (· ≠ ·) from nd))
  have ee := (Option.some.inj a1).trans (Option.some.inj a2).symm
  rcases Nat.lt_or_gt_of_ne this with l | l
  · exact q m n lm ln l ee
  · exact q n m ln lm l ee.symm
theorem nth_nd {b : Int} {zs : List Str} (b0 : 0 ≤ b) (l : zs.length ≤ 20) (h : ∀ (k : Nat) (z : Str), zs[k]? = some z → Nth b k z) : zs.Nodup := by
  unfold List.Nodup
  rw [List.pairwise_iff_getElem]
  intro i j hi hj lt e
  obtain ⟨_, c, e1, a1⟩ := h i _ (List.getElem?_eq_getElem hi)
  obtain ⟨_, c', e2, a2⟩ := h j _ (List.getElem?_eq_getElem hj)
  rw [← e, e1] at e2
  cases e2
  rw [Int.fmod_eq_emod_of_nonneg _ (by decide)] at a1 a2
  obtain ⟨nd, l26⟩ := let_nd
  have r1 : 0 ≤ (b + 11 * (i : Int)) % 26 ∧ (b + 11 * (i : Int)) % 26 < 26 := by omega
  have r2 : 0 ≤ (b + 11 * (j : Int)) % 26 ∧ (b + 11 * (j : Int)) % 26 < 26 := by omega
  obtain ⟨m, em⟩ : ∃ m : Nat, (b + 11 * (i : Int)) % 26 = (m : Int) := ⟨_, (Int.toNat_of_nonneg r1.1).symm⟩
  obtain ⟨n, en⟩ : ∃ n : Nat, (b + 11 * (j : Int)) % 26 = (n : Int) := ⟨_, (Int.toNat_of_nonneg r2.1).symm⟩
  rw [em] at a1
  rw [en] at a2
  have lm : m < LET.cps.toList.length := by omega
  have ln : n < LET.cps.toList.length := by omega
  rw [atI_nat (List.getElem?_eq_getElem lm)] at a1
  rw [atI_nat (List.getElem?_eq_getElem ln)] at a2
  have : m ≠ n := by omega
  have q := (List.pairwise_iff_getElem.mp (show LET.cps.toList.Pairwise (· ≠ ·) from nd))
  have ee := (Option.some.inj a1).trans (Option.some.inj a2).symm
  rcases Nat.lt_or_gt_of_ne this with l | l
  · exact q m n lm ln l ee
  · exact q n m ln lm l ee.symm
def spTit : Sp := fun vs H Q _ => ∃ (a : Addr) (n : Nat), vs = [.ref a, .int n] ∧ Well H a ∧ n ≤ 20 ∧
  ∀ (zs : List Str) (H' : Hp) (l : Addr), Well H' a → But a H H' → H l = none → H' l = some (.lst (zs.map V.str)) → zs.length = n → zs.Nodup → (∀ z ∈ zs, nameB z = true) → (zs.map fst1).Nodup → Q (.ref l) H'
section
variable {P : Program} {w : World} {K : PySem.W.Frag} {mg : Str → Option Value} {base : Heap} {f : Addr} {fd fdD fdO : FuncData}
abbrev nTit : List Str := ["_law_well_here", "_law_many", "_law_letters", "_law_begin", "_law_found", "_law_k", "_law_rest", "_law_turn"]
theorem scTit : FnScope nTit ["_law_well_here", "_law_many"] (defScope sTit) := ⟨rfl, rfl, rfl, by decide +kernel, rfl, by decide +kernel, by decide +kernel⟩
theorem ok_tit (F : FnP K "_law_titles" sTit f fd) (T : Txt K mg w) (FD : FnDrw K fdD) (FO : FnOne K fdO) : FnOk P w K mg base CX0 3 f fd ["_law_well_here", "_law_many"] spTit := by
  have GD : FnOk P w K mg base CX0 1 (ga K "_law_draw") fdD ["_law_well_here", "_law_much"] spDraw := ok_draw FD T.g_int
  have GO : FnOk P w K mg base CX0 2 (ga K "_law_one") fdO ["_law_well_here", "_law_some"] (spOne K) := ok_one FO FD T.m_l_draw T.g_int T.g_len
  refine F.ok scTit (fun vs H Q E h => ?_) (fun cdv A outer s H vs Q E hr h => ?_)
  · obtain ⟨_, _, rfl, _⟩ := h
    rfl
  have big : 1000 < sizeLine := by decide
  refine ⟨_, PSs.nox (pss_cons (ps_set (i := 2) scTit.nd rfl (Or.inr rfl) pe_str)
    (pss_cons (ps_par (i := 3) (j := 4) rfl scTit.nd rfl rfl (by decide) rfl rfl (pa_cons (pe_call GD (hr.mono (by decide)) (by rfl) T.m_l_draw FD.kp (bDrw FD) .nil pass0 (pa_cons (pv 0) (pa_cons pe_int pa_nil))) (pa_cons (pe_lst pa_nil) pa_nil)) rfl)
    (pss_cons (ps_for PassesOwn.never rfl (pi_range1 (by rfl) T.g_range (pa_cons (pv 1) pa_nil)) (pg_name (i := 5) scTit.nd rfl (Or.inl rfl))
      (pss_cons (ps_setLc (i := 6) (own := [("_law_turn", 7)]) (g := gName 7) (tt := tYes) (te := tCall (spOne K) [] E0 (tCons (tVar 0) (tCons (tCB (rListTx) (tCons (tVar 2) tNil)) tNil))) rfl scTit.nd rfl rfl (sw_true rfl rfl rfl (by decide +kernel))
          (pi_range1 (by rfl) T.g_range (pa_cons (pe_call GO (hr.mono (by decide)) (by rfl) T.m_l_one FO.kp (bOne FO) .nil pass0 (pa_cons (pv 0) (pa_cons (pe_lst (pa_cons pe_int (pa_cons pe_int (pa_cons pe_int pa_nil)))) pa_nil))) pa_nil)) (blkOk_by (N := nTit) (sc := defScope sTit) (by decide +kernel))
          (fun _ _ _ _ _ => pg_name (i := 7) scTit.nd rfl (Or.inl rfl)) (fun _ _ _ _ _ => pts_nil) (fun _ _ _ _ _ => pe_call GO (hr.mono (by decide)) (by rfl) T.m_l_one FO.kp (bOne FO) .nil pass0 (pa_cons (pv 0) (pa_cons (pe_callTy (call_list_tx rfl) (by rfl) T.g_list boot_list (pa_cons (pv 2) pa_nil)) pa_nil))))
      (pss_one (ps_expr (pe_bm PySem.F.plainAttrs_list PySem.F.slot_list_append PySem.F.type_list_append mt_append (pv 4) (pa_cons (pe_op op_add_str (pe_ix ix_str (pv 2) (pe_op op_modN (pe_op op_add (pv 3) (pe_op op_mul pe_int (pv 5))) pe_int) (fun _ _ => rfl))
        (pe_bm PySem.F.plainAttrs_str PySem.F.slot_str_join PySem.F.type_str_join mt_join pe_str (pa_cons (pv 6) pa_nil))) pa_nil))))))
    (pss_one (ps_ret (pv 4)))))), ?_⟩
  obtain ⟨a, n, rfl, wl, ln, k⟩ := h
  refine ⟨_, rfl, a, 26, rfl, wl, by decide, by decide, fun H1 b b0 b1 w1 c1 => ⟨(show 0 ≤ sizeLine by decide), fun l nl => ?_⟩⟩
  have na := w1.new nl
  have nH : H l = none := by
    cases e : H l with
    | none => rfl
    | some o => rw [c1 l o na e] at nl; cases nl
  have S1 := Same.new (o := .lst []) nl
  refine ⟨_, _, rfl, _, rfl, (n : Int), rfl, by omega, by omega, ?_⟩
  rw [show ((n : Nat) : Int).toNat = n by omega]
  refine for_range (lo := 0) (n := n) (fun i σ G => ∃ (v5 v6 v7 : Option V) (zs : List Str), σ = [some (.ref a), some (.int n), some (.str LET), some (.int b), some (.ref l), v5, v6, v7] ∧ Well G a ∧ But a H G ∧ G l = some (.lst (zs.map V.str)) ∧ zs.length = i ∧ ∀ (k : Nat) (z : Str), zs[k]? = some z → Nth b k z)
    ⟨_, _, _, [], rfl, w1.same S1, c1.trans (But.of S1), upd_same, rfl, fun k z e => by cases e⟩ (fun i σ G li g => ?_) (fun σ G g => ?_)
  · obtain ⟨v5, v6, v7, zs, rfl, wG, bG, hl, lz, nth⟩ := g
    refine ⟨_, rfl, (show 3 ≤ sizeLine by decide), fun l2 nl2 => ?_⟩
    have S2 := Same.new (o := .lst [.int 0, .int 2, .int 11]) nl2
    refine ⟨a, l2, _, rfl, wG.same S2, wG.new nl2, upd_same, (show 0 < 3 by decide), (show 3 < 1073741824 by decide), fun G2 x hx w2 b2 => ?_⟩
    obtain ⟨r, rfl, lr⟩ : ∃ r : Nat, x = .int r ∧ r ≤ 11 := by
      rcases List.mem_cons.mp hx with rfl | hx
      · exact ⟨0, rfl, by decide⟩
      rcases List.mem_cons.mp hx with rfl | hx
      · exact ⟨2, rfl, by decide⟩
      rcases List.mem_cons.mp hx with rfl | hx
      · exact ⟨11, rfl, by decide⟩
      cases hx
    have B2 := (bG.trans (But.of S2)).trans b2
    have hl2 := b2 _ _ na (S2 _ _ hl)
    clear S2 b2 nl2 hx
    refine ⟨(r : Int), rfl, by omega, by omega, fun D nD => ?_⟩
    rw [show ((r : Nat) : Int).toNat = r by omega]
    have nDa := w2.new nD
    have S3 := Same.new (o := .lst []) nD
    refine lc_range (lo := 0) (n := r) (fun j G' => Well G' a ∧ But a G2 G' ∧ ∃ cs : List Nat, cs.length = j ∧ (∀ c ∈ cs, c ∈ LET.cps.toList) ∧ G' D = some (.lst ((cs.map sgn).map V.str))) ⟨w2.same S3, But.of S3, [], rfl, fun c hc => absurd hc (by simp), upd_same⟩ (fun j G' lj g => ?_) (fun G' g => ?_)
    · obtain ⟨w', b', cs, lc, ac, hD⟩ := g
      refine ⟨rfl, _, rfl, _, rfl, LET, rfl, by decide, fun l3 nl3 => ?_⟩
      have S4 := Same.new (o := .lst ((sgns LET).map V.str)) nl3
      refine ⟨a, l3, _, rfl, w'.same S4, w'.new nl3, upd_same, by decide +kernel, by decide +kernel, fun G3 y hy w3 b3 => ?_⟩
      obtain ⟨c, hc, rfl⟩ := mem_sgns hy
      have hD3 := b3 _ _ nDa (S4 _ _ hD)
      refine ⟨_, hD3, ?_, ?_, But.sub b' nD ((But.of S4).trans b3), cs ++ [c], by rw [List.length_append, lc]; rfl, fun d hd => ?_, ?_⟩
      · rw [List.length_map, List.length_map, lc]
        omega
      · obtain ⟨x, y, zz, e⟩ := w3
        exact ⟨x, y, zz, by rw [upd_ne (Ne.symm nDa)]; exact e⟩
      · rcases List.mem_append.mp hd with hd | hd
        · exact ac d hd
        · rw [List.mem_singleton.mp hd]
          exact hc
      · rw [upd_same, List.map_append, List.map_append]
        rfl
    · obtain ⟨w', b', cs, lc, ac, hD⟩ := g
      have hl3 := b' _ _ na hl2
      have B3 := B2.trans b'
      obtain ⟨m, em⟩ : ∃ m : Nat, (b + 11 * (i : Int)).fmod 26 = (m : Int) := ⟨_, (Int.toNat_of_nonneg (by rw [Int.fmod_eq_emod_of_nonneg _ (by decide)]; omega)).symm⟩
      have lm : m < LET.cps.toList.length := by
        rw [let_nd.2]
        rw [Int.fmod_eq_emod_of_nonneg _ (by decide)] at em
        omega
      have at_ : atI LET.cps.toList ((b + 11 * (i : Int)).fmod 26) = some LET.cps.toList[m] := by rw [em]; exact atI_nat (List.getElem?_eq_getElem lm)
      have mem : LET.cps.toList[m] ∈ LET.cps.toList := List.getElem_mem lm
      generalize LET.cps.toList[m] = c at at_ mem
      have ej := tl_join_sgns cs
      have el : (⟨#[c]⟩ ++ Txt.join (Str.ofString "") (cs.map sgn) : Str).cps.toList = c :: cs := by
        show (#[c] ++ (Txt.join (Str.ofString "") (cs.map sgn)).cps).toList = _
        rw [Array.toList_append, ej]
        rfl
      have lj : (Txt.join (Str.ofString "") (cs.map sgn)).length = cs.length := by
        have := congrArg List.length ej
        rw [Array.length_toList] at this
        exact this
      have ls : ((cs.map sgn).map fun x => x.length).sum = cs.length := by
        rw [List.map_map]
        clear ej el lj ac hD lc
        induction cs with
        | nil => rfl
        | cons c cs ih =>
          rw [List.map_cons, List.sum_cons, ih, List.length_cons]
          show 1 + cs.length = _
          omega
      refine ⟨_, rfl, .inl ⟨rfl, _, SqL.of hl3⟩, _, rfl, _, rfl, _, rfl, _, _, rfl, rfl, .inl ⟨by decide, by decide⟩, _, _, rfl, rfl, _, _, rfl, rfl, (show (26 : Int) ≠ 0 by decide), LET, _, c, rfl, rfl, by decide, (by rw [Int.zero_add]; exact at_), ?_⟩
      refine ⟨rfl, _, rfl, "", D, cs.map sgn, rfl, rfl, .inl (SqL.of hD), ?_, _, _, rfl, rfl, ?_, l, _, _, rfl, rfl, hl3, ?_, _, _, _, zs ++ [⟨#[c]⟩ ++ Txt.join (Str.ofString "") (cs.map sgn)], rfl, ?_, ?_, ?_, ?_, ?_⟩
      · rw [ls, List.length_map]
        show cs.length + cs.length * 0 ≤ _
        omega
      · rw [lj]
        show 1 + cs.length ≤ _
        omega
      · rw [List.length_map]
        omega
      · obtain ⟨x, y, zz, e⟩ := w'
        exact ⟨x, y, zz, by rw [upd_ne (Ne.symm na)]; exact e⟩
      · intro x o ne e
        rw [upd_ne (ne_of_none e nH)]
        exact B3 x o ne e
      · rw [upd_same, List.map_append]
        rfl
      · rw [List.length_append, lz]
        rfl
      · intro q z e
        rw [List.getElem?_append] at e
        by_cases lq : q < zs.length
        · rw [if_pos lq] at e
          exact nth q z e
        · rw [if_neg lq] at e
          obtain ⟨l0, _⟩ := List.getElem?_eq_some_iff.mp e
          have eq : q = i := by
            have : q - zs.length < 1 := l0
            omega
          rw [show q - zs.length = 0 by omega] at e
          cases e
          subst eq
          exact ⟨name_of el (by rw [List.length_cons]; omega) (by rw [List.length_cons]; omega) fun d hd => by
            rcases List.mem_cons.mp hd with rfl | hd
            · exact mem
            · exact ac d hd, c, by rw [el]; rfl, at_⟩
  · obtain ⟨v5, v6, v7, zs, rfl, wG, bG, hl, lz, nth⟩ := g
    refine ⟨_, rfl, k zs G l wG bG nH hl lz (nth_nd b0 (by omega) nth) (fun z hz => ?_) (nth_hd b0 (by omega) nth)⟩
    obtain ⟨i, li, e⟩ := List.mem_iff_getElem.mp hz
    exact (nth i z (by rw [List.getElem?_eq_getElem li, e])).1
end
end K09

set_option maxRecDepth 100000
set_option maxHeartbeats 4000000
namespace K09
open PySem PySem.Spec PyProof.Rows L2 He VH RZ
/-! drawn Phases -/
abbrev sStg : Stmt := top 67
abbrev FnStg (K : PySem.W.Frag) (fd : FuncData) : Prop := FnP K "_law_stages" sStg (ga K "_law_stages") fd
theorem bStg {K : PySem.W.Frag} {fd : FuncData} (F : FnStg K fd) : Binds K fd ["_law_well_here", "_law_many", "_law_able"] [] := FunD.bindsN F fun _ _ _ _ _ _ us hl => match us, hl with | [_, _, _], _ => rfl
theorem sq_but {K : PySem.W.Frag} {a b : Addr} {H H' : Hp} {xs : List V} (h : SqT K H b xs) (w : Well H a) (e : But a H H') : SqT K H' b xs := by
  obtain ⟨x, y, z, w⟩ := w
  exact h.off (fun o ys => ⟨by rw [w]; simp, by rw [w]; simp⟩) e
theorem ph_but {K : PySem.W.Frag} {a p : Addr} {H H' : Hp} {d : Ph} (h : PhS K H p d) (w : Well H a) (e : But a H H') : PhS K H' p d := by
  obtain ⟨dx, t1, t2, t3, h, a1, a2, a3⟩ := h
  refine ⟨dx, t1, t2, t3, e _ _ (fun q => ?_) h, sq_but a1 w e, sq_but a2 w e, sq_but a3 w e⟩
  obtain ⟨x, y, z, w⟩ := w
  rw [q, w] at h
  cases h
def spStg (K : PySem.W.Frag) : Sp := fun vs H Q _ => ∃ (a la : Addr) (n : Nat) (ws : List Str), vs = [.ref a, .int n, .ref la] ∧ Well H a ∧ n ≤ 20 ∧ H la = some (.lst (ws.map V.str)) ∧ la ≠ a ∧ ws.length ≤ 1000 ∧ ws.Nodup ∧ (∀ z ∈ ws, nameB z = true) ∧
  ∀ (ds : List Ph) (ps : List V) (H' : Hp) (l : Addr), Well H' a → But a H H' → H l = none → H' l = some (.lst ps) → Each (IsPh K) H' ps (ds.map some) → ds.length = n → (ds.map (·.z)).Nodup → (∀ d ∈ ds, d.ws.all ws.contains = true) → Q (.ref l) H'
theorem told_str {K : PySem.W.Frag} {H : Hp} {cs : List Str} (h : ∀ z ∈ cs, z.length ≤ 1000 ∧ PyData.canLay0 (.str z) = true) : Told K H (cs.map V.str) := fun x hx => by
  obtain ⟨z, hz, rfl⟩ := List.mem_map.mp hx
  exact .inl ⟨z, rfl, (h z hz).1, (h z hz).2⟩
theorem let_ok : ∀ c ∈ LET.cps.toList, c < 128 := by decide +kernel
theorem name_lay {z : Str} (h : nameB z = true) : z.length ≤ 1000 ∧ PyData.canLay0 (.str z) = true := by
  unfold nameB at h
  rw [Bool.and_eq_true, Bool.and_eq_true] at h
  obtain ⟨_, l, a⟩ := h
  have l := of_decide_eq_true l
  refine ⟨by omega, ?_⟩
  unfold PyData.canLay0 PyData.strOk
  rw [← Array.all_toList]
  exact List.all_eq_true.mpr fun c hc => decide_eq_true (Nat.lt_trans (let_ok c (of_decide_eq_true (List.all_eq_true.mp a c hc))) (by decide))
theorem lay_pr : ∀ z ∈ prW ++ waW, z.length ≤ 1000 ∧ PyData.canLay0 (.str z) = true := by decide +kernel
theorem isL_sub {K : PySem.W.Frag} {H : Hp} {p : Addr} {cs ws : List Str} {ok : List V → Bool} (hp : SqT K H p (cs.map V.str)) (sub : cs.Sublist ws) (lw : ws.length ≤ 1000) (lay : ∀ z ∈ ws, z.length ≤ 1000 ∧ PyData.canLay0 (.str z) = true) (h : ok (cs.map V.str) = true) : isL K H ok (.ref p) (some (cs.map V.str)) :=
  .inl ⟨p, _, rfl, .inr hp, told_str fun z hz => lay z (sub.subset hz), by rw [List.length_map]; exact Nat.le_trans sub.length_le lw, by rw [if_pos h]⟩
section
variable {P : Program} {w : World} {K : PySem.W.Frag} {mg : Str → Option Value} {base : Heap} {f : Addr} {fd fdD fdO fdT fdP fdI : FuncData}
abbrev nStg : List Str := ["_law_well_here", "_law_many", "_law_able", "_law_found", "_law_title", "_law_kept", "_law_ends", "_law_some", "_law_is_on"]
theorem scStg : FnScope nStg ["_law_well_here", "_law_many", "_law_able"] (defScope sStg) := ⟨rfl, rfl, rfl, by decide +kernel, rfl, by decide +kernel, by decide +kernel⟩
theorem ok_stg (F : FnP K "_law_stages" sStg f fd) (T : Txt K mg w) (fns : Fns K) (FI : FnPhI K fdI) (FD : FnDrw K fdD) (FO : FnOne K fdO) (FT : FnTit K fdT) (FP : FnPrt K fdP) : FnOk P w K mg base (L2.CX P w) 5 f fd ["_law_well_here", "_law_many", "_law_able"] (spStg K) := by
  obtain ⟨mv, kb⟩ := kPhA FI
  have GI : FnOk P w K mg base (L2.CX P w) 3 (ma K (ga K "Phase") "__init__") fdI nPhI (spPhI K) := ok_phI FI T fns
  have GD : FnOk P w K mg base CX0 1 (ga K "_law_draw") fdD ["_law_well_here", "_law_much"] spDraw := ok_draw FD T.g_int
  have GT : FnOk P w K mg base CX0 3 (ga K "_law_titles") fdT ["_law_well_here", "_law_many"] spTit := ok_tit FT T FD FO
  have GP : FnOk P w K mg base CX0 2 (ga K "_law_part") fdP ["_law_well_here", "_law_words"] (spPrt K) := ok_prt FP T FD
  refine F.ok scStg (fun vs H Q E h => ?_) (fun cdv A outer s H vs Q E hr h => ?_)
  · obtain ⟨_, _, _, _, rfl, _⟩ := h
    rfl
  refine ⟨_, pss_cons (ps_set (i := 3) scStg.nd rfl (Or.inl rfl) (pe_lst pa_nil))
    (pss_cons (ps_for (passes_of rfl) rfl (pi_list (pe_call GT (hr.mono (by decide)) (by rfl) T.m_l_titles FT.kp (bTit FT) .nil pass0 (pa_cons (pv 0) (pa_cons (pv 1) pa_nil)))) (pg_name (i := 4) scStg.nd rfl (Or.inl rfl))
      (pss_cons (ps_set (i := 5) scStg.nd rfl (Or.inl rfl) (pe_call GP (hr.mono (by decide)) (by rfl) T.m_l_part FP.kp (bPrt FP) .nil pass0 (pa_cons (pv 0) (pa_cons (pe_lst (pa_cons pe_str (pa_cons pe_str (pa_cons pe_str (pa_cons pe_str pa_nil))))) pa_nil))))
      (pss_cons (ps_set (i := 6) scStg.nd rfl (Or.inl rfl) (pe_call GP (hr.mono (by decide)) (by rfl) T.m_l_part FP.kp (bPrt FP) .nil pass0 (pa_cons (pv 0) (pa_cons (pe_lst (pa_cons pe_str (pa_cons pe_str pa_nil))) pa_nil))))
      (pss_cons (ps_par (i := 7) (j := 8) rfl scStg.nd rfl rfl (by decide) rfl rfl (pa_cons (pe_call GP (hr.mono (by decide)) (by rfl) T.m_l_part FP.kp (bPrt FP) .nil pass0 (pa_cons (pv 0) (pa_cons (pv 2) pa_nil))) (pa_cons (pe_cmpR op_gt (pe_call GD (hr.mono (by decide)) (by rfl) T.m_l_draw FD.kp (bDrw FD) .nil pass0 (pa_cons (pv 0) (pa_cons pe_int pa_nil))) pe_int (nomark _)) pa_nil)) rfl)
      (pss_one (ps_expr (pe_bm PySem.F.plainAttrs_list PySem.F.slot_list_append PySem.F.type_list_append mt_append (pv 3) (pa_cons (pe_makeK (n := 1) (ks := ["writers", "fills", "promises", "waits"]) T.mk_Phase GI (hr.mono (by decide)) (by rfl) T.m_Phase kb (pass_c (takes_of rfl rfl rfl rfl)) (pa_cons (pv 4) pa_nil)
        (pk_cons (pv 7) (pk_cons (pv 8) (pk_cons (pv 5) (pk_cons (pv 6) pk_nil))))) pa_nil))))))))
    (pss_one (ps_ret (pv 3)))), ?_⟩
  obtain ⟨a, la, n, ws, rfl, wl, ln, hla, nla, lw, nd, nm, k⟩ := h
  have big : 1000 < sizeLine := by decide
  refine ⟨(show 0 ≤ sizeLine by decide), fun l nl => ?_⟩
  have na := wl.new nl
  have S1 := Same.new (o := .lst []) nl
  have h1 : upd H l (.lst []) l = some (.lst []) := upd_same
  refine ⟨_, rfl, _, rfl, a, n, rfl, wl.same S1, ln, fun zs H2 lt w2 b2 nlt hlt lz ndz nmz _ => ?_⟩
  have ltl : lt ≠ l := fun e => by rw [e, h1] at nlt; cases nlt
  have lta : lt ≠ a := (wl.same S1).new nlt
  refine ⟨lt, rfl, ⟨_, SqL.of hlt⟩, ?_⟩
  refine for_list (K := K) (a := lt) (xs := zs.map V.str) (fun i σ G => ∃ (v4 v5 v6 v7 v8 : Option V) (ds : List Ph) (ps : List V), σ = [some (.ref a), some (.int n), some (.ref la), some (.ref l), v4, v5, v6, v7, v8] ∧ Well G a ∧ But a H G ∧ G lt = some (.lst (zs.map V.str)) ∧ G l = some (.lst ps) ∧ Each (IsPh K) G ps (ds.map some) ∧ ds.map (·.z) = zs.take i ∧ (∀ d ∈ ds, d.ws.all ws.contains = true))
    ⟨_, _, _, _, _, [], [], rfl, w2, (But.of S1).trans b2, hlt, b2 _ _ na h1, ⟨rfl, fun i x e => by cases e⟩, rfl, fun d hd => absurd hd (by simp)⟩ (fun i σ G _ g => ?_) (fun i x σ G hx g => ?_) (fun σ G g => ?_)
  · obtain ⟨_, _, _, _, _, _, _, _, _, _, g, _⟩ := g
    exact SqL.of g
  · obtain ⟨v4, v5, v6, v7, v8, ds, ps, rfl, wG, bG, hlt, hl, ep, ez, al⟩ := g
    rw [List.getElem?_map] at hx
    obtain ⟨z, hz, rfl⟩ := Option.map_eq_some_iff.mp hx
    have nz := nmz z (List.mem_of_getElem? hz)
    -- kept
    refine ⟨_, rfl, (show 4 ≤ sizeLine by decide), fun l1 n1 => ?_⟩
    have T1 := Same.new (o := .lst (prW.map V.str)) n1
    refine ⟨a, l1, prW, rfl, wG.same T1, upd_same, wG.new n1, by decide, fun cs1 G1 p1 sub1 w1 b1 hp1 => ?_⟩
    have B1 := (But.of T1).trans b1
    -- ends
    refine ⟨_, rfl, (show 2 ≤ sizeLine by decide), fun l2 n2 => ?_⟩
    have T2 := Same.new (o := .lst (waW.map V.str)) n2
    refine ⟨a, l2, waW, rfl, w1.same T2, upd_same, w1.new n2, by decide, fun cs2 G2 p2 sub2 w2 b2 hp2 => ?_⟩
    have C2 := (But.of T2).trans b2
    have hp1 := sq_but hp1 w1 C2
    have B2 := B1.trans C2
    -- some
    refine ⟨_, rfl, _, rfl, a, la, ws, rfl, w2, B2 _ _ nla (bG _ _ nla hla), nla, lw, fun cs3 G3 p3 sub3 w3 b3 hp3 => ?_⟩
    have hp1 := sq_but hp1 w2 b3
    have hp2 := sq_but hp2 w2 b3
    have B3 := B2.trans b3
    refine ⟨_, rfl, a, 3, rfl, w3, by decide, by decide, fun G4 d d0 d1 w4 b4 => ⟨_, _, rfl, rfl, ?_⟩⟩
    have hp1 := sq_but hp1 w3 b4
    have hp2 := sq_but hp2 w3 b4
    have hp3 := sq_but hp3 w3 b4
    have B4 := B3.trans b4
    obtain ⟨bb, eb⟩ : ∃ bb, bb = decide ((0 : Int) < d) := ⟨_, rfl⟩
    clear T1 T2 b1 b2 b3 b4 B1 B2 B3 C2 w1 w2 w3
    have hl4 := B4 _ _ na hl
    have hlt4 := B4 _ _ lta hlt
    have ep4 : Each (IsPh K) G4 ps (ds.map some) := ⟨ep.1, fun j y e => by
      obtain ⟨r, er, q⟩ := ep.2 j y e
      obtain ⟨d, rfl⟩ := mem_some er
      obtain ⟨⟨pa, rfl, ph⟩, l⟩ := q
      exact ⟨_, er, ⟨pa, rfl, ph_but ph wG B4⟩, l⟩⟩
    refine ⟨_, _, rfl, _, rfl, .inl ⟨rfl, _, SqL.of hl4⟩, ?_⟩
    refine ⟨_, rfl, _, rfl, _, rfl, _, rfl, _, rfl, rfl, rfl, fun x dx nx ndx ne => ?_⟩
    have U1 := Same.new (o := .own x) ndx
    have nx1 : upd G4 dx (.own x) x = none := by rw [upd_ne (Ne.symm ne)]; exact nx
    have U2 := U1.trans (Same.new (o := .ins (ga K "Phase") dx []) nx1)
    have nm3 : nmsB (cs3.map V.str) = true := by
      unfold nmsB
      rw [txs_map]
      show (cs3.all nameB && decide cs3.Nodup) = true
      rw [Bool.and_eq_true]
      exact ⟨List.all_eq_true.mpr fun y hy => nm y (sub3.subset hy), decide_eq_true (nd.sublist sub3)⟩
    have wd : ∀ {cs ws : List Str}, cs.Sublist ws → ws.Nodup → wdsB (cs.map V.str) ws = true := fun {cs ws} sub nd => by
      unfold wdsB
      rw [txs_map]
      exact sub_wds sub nd
    refine ⟨x, dx, .str z, .ref p3, .bl bb, .ref p1, .ref p2, some z, some (cs3.map V.str), some bb, some (cs1.map V.str), some (cs2.map V.str), (by rw [eb]; rfl), upd_same, .inl ⟨z, rfl, (name_lay nz).1, by rw [if_pos nz]⟩,
      isL_sub (hp3.same U2) sub3 lw (fun y hy => name_lay (nm y hy)) nm3, .inl ⟨bb, rfl, rfl⟩,
      isL_sub (hp1.same U2) sub1 (by decide) (fun y hy => lay_pr y (List.mem_append_left _ hy)) (wd sub1 (by decide)),
      isL_sub (hp2.same U2) sub2 (by decide) (fun y hy => lay_pr y (List.mem_append_right _ hy)) (wd sub2 (by decide)),
      fun u e => by simp [wrong] at e, fun z' ws' b' ps' qs' e0 e1 e2 e3 e4 H' Bx ph => ?_⟩
    cases e0
    cases e1
    cases e2
    cases e3
    cases e4
    have S5 : Same G4 H' := But.new ((But.of U1).trans (But.upd.trans Bx)) nx
    have hl5 := S5 _ _ hl4
    have lps := ep.1
    rw [List.length_map] at lps
    have lds : ds.length ≤ 20 := by
      have := congrArg List.length ez
      rw [List.length_map, List.length_take] at this
      omega
    refine ⟨rfl, l, _, _, rfl, rfl, hl5, by omega, _, _, _, _, _, ds ++ [⟨z, cs3, bb, cs1, cs2⟩], ps ++ [.ref x], rfl, ?_, ?_, ?_, upd_same, ?_, ?_, ?_⟩
    · obtain ⟨u, v, t, e⟩ := w4.same S5
      exact ⟨u, v, t, by rw [upd_ne (Ne.symm na)]; exact e⟩
    · intro y o ney e
      rw [upd_ne (ne_of_none e nl)]
      exact S5 _ _ (B4 y o ney (bG y o ney e))
    · rw [upd_ne ltl]
      exact S5 _ _ hlt4
    · have stay : ∀ {y : V} {d : Ph}, IsPh K H' y (some d) → IsPh K (upd H' l (.lst (ps ++ [.ref x]))) y (some d) := fun {y d} ⟨⟨pa, e, ph⟩, l9⟩ => by
        have off : But l H' (upd H' l (.lst (ps ++ [.ref x]))) := But.upd
        obtain ⟨dx, t1, t2, t3, h, a1, a2, a3⟩ := ph
        have sq : ∀ {b : Addr} {xs : List V}, SqT K H' b xs → SqT K (upd H' l (.lst (ps ++ [.ref x]))) b xs := fun {b xs} h => h.off (fun o ys => ⟨by rw [hl5]; simp, by rw [hl5]; simp⟩) off
        refine ⟨⟨pa, e, dx, t1, t2, t3, off _ _ (fun q => by rw [q, hl5] at h; cases h) h, sq a1, sq a2, sq a3⟩, l9⟩
      rw [List.map_append]
      refine Each.snoc ⟨ep4.1, fun j y e => ?_⟩ (stay ⟨⟨x, rfl, ph⟩, Nat.le_trans sub3.length_le lw⟩)
      obtain ⟨r, er, q⟩ := ep4.2 j y e
      obtain ⟨d, rfl⟩ := mem_some er
      exact ⟨_, er, stay (q.same S5)⟩
    · rw [List.map_append, ez, List.take_succ, hz]
      rfl
    · intro d hd
      rcases List.mem_append.mp hd with hd | hd
      · exact al d hd
      · rw [List.mem_singleton.mp hd]
        exact List.all_eq_true.mpr fun y hy => List.contains_iff_mem.mpr (sub3.subset hy)
  · obtain ⟨v4, v5, v6, v7, v8, ds, ps, rfl, wG, bG, hlt, hl, ep, ez, al⟩ := g
    rw [List.length_map, List.take_length] at ez
    exact ⟨_, rfl, k ds ps G l wG bG nl hl ep (by rw [← lz, ← ez, List.length_map]) (by rw [ez]; exact ndz) al⟩
end
end K09

set_option maxRecDepth 100000
set_option maxHeartbeats 4000000
namespace K09
open PySem PySem.Spec PyProof.Rows L2 He VH RZ
/-! all ways back of n Phases, in order; a drawn part of them; what stands through draws -/
def rowW (i : Nat) : List (Int × Int) := (List.range i).map fun j : Nat => (((i : Nat) : Int), ((j : Nat) : Int))
def allW (n : Nat) : List (Int × Int) := (List.range n).flatMap rowW
theorem allW_succ (n : Nat) : allW (n + 1) = allW n ++ rowW n := by
  unfold allW
  rw [List.range_succ, List.flatMap_append]
  simp
theorem mem_row {i : Nat} {r : Int × Int} (h : r ∈ rowW i) : 0 ≤ r.2 ∧ r.2 < r.1 ∧ r.1 = (i : Int) := by
  obtain ⟨j, hj, rfl⟩ := List.mem_map.mp h
  have := List.mem_range.mp hj
  exact ⟨by show (0 : Int) ≤ (j : Int); omega, by show (j : Int) < (i : Int); omega, rfl⟩
theorem mem_allW {n : Nat} {r : Int × Int} (h : r ∈ allW n) : 0 ≤ r.2 ∧ r.2 < r.1 ∧ r.1 < (n : Int) := by
  obtain ⟨i, hi, hr⟩ := List.mem_flatMap.mp h
  have := List.mem_range.mp hi
  obtain ⟨a, b, c⟩ := mem_row hr
  exact ⟨a, b, by omega⟩
theorem row_nd (i : Nat) : (rowW i).Nodup := by
  unfold rowW List.Nodup
  rw [List.pairwise_map]
  refine List.Pairwise.imp ?_ (List.nodup_range (n := i))
  intro x y ne e
  exact ne (Int.ofNat_inj.mp (Prod.mk.inj e).2)
theorem allW_nd : ∀ n : Nat, (allW n).Nodup
  | 0 => List.nodup_nil
  | n + 1 => by
    rw [allW_succ, List.nodup_append]
    refine ⟨allW_nd n, row_nd n, fun x hx y hy e => ?_⟩
    have a := (mem_allW hx).2.2
    have b := (mem_row hy).2.2
    rw [e] at a
    omega
theorem allW_len : ∀ n : Nat, n ≤ 6 → (allW n).length ≤ 36 := by decide
/-- a drawn part of them is right -/
theorem ways_ok {n : Nat} {rs : List (Int × Int)} (h : rs.Sublist (allW n)) : badY (rs.map some) n = none :=
  badY_iff.mpr ⟨(allW_nd n).sublist h, fun r hr => mem_allW (h.subset hr)⟩
theorem wr_but {K : PySem.W.Frag} {a p : Addr} {H H' : Hp} {z : Str} {xs : List V} {b : Bool} (h : WrAt K H p z xs b) (w : Well H a) (e : But a H H') : WrAt K H' p z xs b := by
  obtain ⟨dx, t, h1, h2⟩ := h
  obtain ⟨x, y, v, w⟩ := w
  refine ⟨dx, t, e _ _ (fun q => ?_) h1, e _ _ (fun q => ?_) h2⟩
  · rw [q, w] at h1
    cases h1
  · rw [q, w] at h2
    cases h2
theorem fl_but {K : PySem.W.Frag} {a c p : Addr} {H H' : Hp} {d : Fl} (h : FlAt K H c p d) (w : Well H a) (e : But a H H') : FlAt K H' c p d := by
  obtain ⟨dx, h⟩ := h
  obtain ⟨x, y, v, w⟩ := w
  refine ⟨dx, e _ _ (fun q => ?_) h⟩
  rw [q, w] at h
  cases h
theorem flk_but {K : PySem.W.Frag} {a c : Addr} {H H' : Hp} (h : FlK K H c) (w : Well H a) (e : But a H H') : FlK K H' c := by
  obtain ⟨p, d, s, h, hp⟩ := h
  exact ⟨p, d, s, fl_but h w e, but_st e w hp⟩
theorem wy_but {K : PySem.W.Frag} {a : Addr} {H H' : Hp} {x : V} {r : Int × Int} (h : WyAt K H x r) (w : Well H a) (e : But a H H') : WyAt K H' x r := by
  obtain ⟨p, ex, h⟩ := h
  exact ⟨p, ex, sq_but h w e⟩
theorem wrs_but {K : PySem.W.Frag} {a : Addr} {H H' : Hp} {ws : List V} {zs : List Str} (h : Each (IsWr K) H ws (zs.map some)) (w : Well H a) (e : But a H H') : Each (IsWr K) H' ws (zs.map some) := ⟨h.1, fun i x q => by
  obtain ⟨r, er, p⟩ := h.2 i x q
  obtain ⟨z, rfl⟩ := mem_some er
  obtain ⟨c, xs, b, rfl, hw⟩ := p
  exact ⟨_, er, c, xs, b, rfl, wr_but hw w e⟩⟩
theorem phs_but {K : PySem.W.Frag} {a : Addr} {H H' : Hp} {ps : List V} {ds : List Ph} (h : Each (IsPh K) H ps (ds.map some)) (w : Well H a) (e : But a H H') : Each (IsPh K) H' ps (ds.map some) := ⟨h.1, fun i x q => by
  obtain ⟨r, er, p⟩ := h.2 i x q
  obtain ⟨d, rfl⟩ := mem_some er
  obtain ⟨⟨c, rfl, hp⟩, l⟩ := p
  exact ⟨_, er, ⟨c, rfl, ph_but hp w e⟩, l⟩⟩
end K09

set_option maxRecDepth 100000
set_option maxHeartbeats 4000000
/-! != of lists and tuples whose items are equal by own __eq__s. -/
namespace GQ
open PySem PySem.SeqAt
open AutoSeq1 (wpAny_loadPart')
open MeetsSeq MeetsSeq2 MeetsSeq3 SeqRoads2
section
variable {prog : Program} {w : World} {A : Around} {R : Result → Shared → Prop}
theorem ne_loopG (l b : Addr) (N : Nat) (I : Nat → Shared → Prop) (hl : ListI prog w A (fun e s' => R (.error e) s') l b N I)
    (fin : ∀ s, I N s → R (.ok (.ret (.bool false))) s) (k : Nat) :
    ∀ i : Nat, N - i = k → i ≤ N → ∀ s, I i s →
      wpAny (model prog w) A.in1 (Builtin.«list.__eq__.loop» ⟨[.ref l, .ref b, rawInt i, rawInt 3], []⟩) (FinOf prog w A R) (fun e s' => R (.error e) s') s := by
  induction k with
  | zero =>
    intro i hk hi s h
    obtain ⟨items, items2, n, n2, hl1, hb1, hs1, hs2, _⟩ := hl _ _ h
    have hi' : i = N := by omega
    have hR : R (.ok (.ret (.bool false))) s := fin s (hi' ▸ h)
    obtain ⟨hp, g, d, tk, os⟩ := s
    wp_walk using wpAny_loadPart' hl1, wpAny_loadPart' hb1
    have hi1 : items[((i : Nat) : Int).toNat]? = none := by simp; omega
    have hi2 : items2[((i : Nat) : Int).toNat]? = none := by simp; omega
    rw [hi1, hi2]
    wp_walk using wpAny_loadPart' hl1, wpAny_loadPart' hb1
    show R (.ok (.ret (.bool (items.size != items2.size)))) _
    rw [hs1, hs2]
    simpa using hR
  | succ k ih =>
    intro i hk hi s h
    obtain ⟨items, items2, n, n2, hl1, hb1, hs1, hs2, turn⟩ := hl _ _ h
    have hlt : i < items.size := by omega
    have hlt2 : i < items2.size := by omega
    have ht := turn hlt hlt2
    obtain ⟨hp, g, d, tk, os⟩ := s
    wp_walk using wpAny_loadPart' hl1, wpAny_loadPart' hb1
    have hi1 : items[((i : Nat) : Int).toNat]? = some items[i] := by simp [hlt]
    have hi2 : items2[((i : Nat) : Int).toNat]? = some items2[i] := by simp [hlt2]
    have hc : ((i : Int) + 1) = ((i + 1 : Nat) : Int) := by omega
    rw [hi1, hi2]
    refine wpAny_bind (wpAny_mono ht (fun r s2 h2 => ?_) fun _ _ x => x)
    obtain ⟨hr, h2⟩ := h2
    subst hr
    have hrec := ih (i + 1) (by omega) (by omega) s2 h2
    obtain ⟨hp2, g2, d2, tk2, os2⟩ := s2
    wp_walk
    rw [hc]
    exact ⟨plainId_quiet plain_eq_loop _, codeAny_builtin entry_eq_loop (by
      rw [Around.under_plainId plain_eq_loop _]
      exact hrec)⟩
theorem list_neG (l b : Addr) (N : Nat) (I : Nat → Shared → Prop) (hl : ListI prog w A (fun e s' => R (.error e) s') l b N I)
    (fin : ∀ s, I N s → R (.ok (.ret (.bool false))) s) {s : Shared} (h : I 0 s) :
    wpAny (model prog w) A.in1 (Builtin.«list.__ne__» ⟨[.ref l, .ref b], []⟩) (FinOf prog w A R) (fun e s' => R (.error e) s') s := by
  obtain ⟨items, items2, n, n2, hl1, hb1, hs1, hs2, _⟩ := hl _ _ h
  have hrec := ne_loopG (A := A) (R := R) l b N I hl fin _ 0 rfl (Nat.zero_le _) s h
  obtain ⟨hp, g, d, tk, os⟩ := s
  have f3 := AutoSeq1.sub_list_list
  have hne : ¬ (items.size != items2.size) = true := by simp [hs1, hs2]
  wp_walk using wpAny_loadPart' hl1, wpAny_loadPart' hb1
  exact ⟨plainId_quiet plain_eq_loop _, codeAny_builtin entry_eq_loop (by
    rw [Around.under_plainId plain_eq_loop _]
    exact hrec)⟩
theorem tuple_neG (l b : Addr) (items items2 : Array Value) (n n2 : Nat) (dd dd2 : Option Addr) (sl sl2 : Array (Option Value)) (hsz : items.size = items2.size) (I : Nat → Shared → Prop)
    (turn : ∀ i (h1 : i < items.size) (h2 : i < items2.size) s, I i s → wpAny (model prog w) A.in1 (eqBool items[i] items2[i]) (fun r s' => r = true ∧ I (i + 1) s') (fun e s' => R (.error e) s') s)
    (fin : ∀ s, I items.size s → R (.ok (.ret (.bool false))) s) {s : Shared} (hl1 : s.heap.get? l = some { cls := .type "tuple", dict := dd, data := .seq items n, slots := sl }) (hb1 : s.heap.get? b = some { cls := .type "tuple", dict := dd2, data := .seq items2 n2, slots := sl2 }) (h : I 0 s) :
    wpAny (model prog w) A.in1 (Builtin.«tuple.__ne__» ⟨[.ref l, .ref b], []⟩) (FinOf prog w A R) (fun e s' => R (.error e) s') s := by
  have f2 := AutoSeq1.sub_tuple_tuple
  have hZ : (items.toList.zip items2.toList).length = items.size := by simp [hsz]
  have h0 := h
  obtain ⟨hp, g, d, tk, os⟩ := s
  wp_walk using wpAny_loadPart' hl1, wpAny_loadPart' hb1, wpAny_forIn_list _ (fun rest b s' => b.1 = none ∧ ∃ i, rest = (items.toList.zip items2.toList).drop i ∧ i ≤ items.size ∧ I i s') _
  case turn =>
    rintro ⟨y, x⟩ rest b s' ⟨hb', i, hz, hi, hI⟩
    have hlt : i < (items.toList.zip items2.toList).length := by
      rcases Nat.lt_or_ge i (items.toList.zip items2.toList).length with h' | h'
      · exact h'
      · rw [List.drop_of_length_le h'] at hz; cases hz
    have h1 : i < items.size := hZ ▸ hlt
    have h2 : i < items2.size := hsz ▸ h1
    rw [List.drop_eq_getElem_cons hlt] at hz
    injection hz with hyx hrest
    have hy : y = items[i] := by have := congrArg Prod.fst hyx; simpa using this
    have hx : x = items2[i] := by have := congrArg Prod.snd hyx; simpa using this
    subst hy hx
    refine wpAny_bind (wpAny_mono (turn i h1 h2 s' hI) (fun r s2 q2 => ?_) fun _ _ x => x)
    obtain ⟨hr, q2⟩ := q2
    subst hr
    wp_walk
    exact ⟨rfl, i + 1, hrest, h1, q2⟩
  case fin =>
    rintro ⟨b1, b2⟩ s' ⟨hb', i, hz, hi, hI⟩
    simp only at hb'
    subst hb'
    have hge : items.size ≤ i := by
      rcases Nat.lt_or_ge i (items.toList.zip items2.toList).length with h' | h'
      · rw [List.drop_eq_getElem_cons h'] at hz; cases hz
      · exact hZ ▸ h'
    have hi' : i = items.size := by omega
    have hR : R (.ok (.ret (.bool false))) s' := fin s' (hi' ▸ hI)
    wp_walk
    simpa [Builtin.Tuple.tupleCompareSizes, bne, hsz] using hR
  case h =>
    exact ⟨rfl, 0, rfl, Nat.zero_le _, h0⟩
end
section
variable {prog : Program} {w : World} {A : Around} {E : Value → Shared → Prop} {s : Shared}
theorem rcne_listG {l b : Addr} {N : Nat} {Q : Value → Shared → Prop} (hu : A.units < cLine) (I : Nat → Shared → Prop) (hl : ListI prog w A E l b N I)
    (fin : ∀ s, I N s → Q (.bool false) s) (h : I 0 s) : wpAny (model prog w) A (richCompare .NotEq (.ref l) (.ref b)) Q E s := by
  obtain ⟨items, items2, n, n2, hl1, hb1, _, _, _⟩ := hl _ _ h
  refine wpAny_richCompare_same_room (op := .NotEq) ⟨_, hl1, rfl⟩ ⟨_, hb1, rfl⟩ F.slot_list_ne (call_here F.slot_list_ne ⟨_, hl1, rfl⟩ F.entry_list_ne (F.args_list_ne_2 _ _) ?_) hu
  exact list_neG (R := wants (fun v s' => v ≠ .notImplemented ∧ Q v s') E) l b N I hl (fun s' q => ⟨(fun x => nomatch x), fin s' q⟩) h
theorem rcne_tupG {l b : Addr} {items items2 : Array Value} {Q : Value → Shared → Prop} (hsz : items.size = items2.size) (hu : A.units < cLine) (I : Nat → Shared → Prop)
    (hl : s.heap.IsTuple l items) (hb : s.heap.IsTuple b items2)
    (turn : ∀ i (h1 : i < items.size) (h2 : i < items2.size) s, I i s → wpAny (model prog w) A.in1 (eqBool items[i] items2[i]) (fun r s' => r = true ∧ I (i + 1) s') E s)
    (fin : ∀ s, I items.size s → Q (.bool false) s) (h : I 0 s) : wpAny (model prog w) A (richCompare .NotEq (.ref l) (.ref b)) Q E s := by
  obtain ⟨⟨cls, dd, data, sl⟩, ho, hc, n, hd⟩ := id hl
  obtain ⟨⟨cls2, dd2, data2, sl2⟩, ho2, hc2, n2, hd2⟩ := id hb
  simp only at hc hd hc2 hd2
  subst hc hd hc2 hd2
  refine wpAny_richCompare_same_room (op := .NotEq) ⟨_, ho, rfl⟩ ⟨_, ho2, rfl⟩ F.slot_tuple_ne (call_here F.slot_tuple_ne ⟨_, ho, rfl⟩ F.entry_tuple_ne (F.args_tuple_ne_2 _ _) ?_) hu
  exact tuple_neG (R := wants (fun v s' => v ≠ .notImplemented ∧ Q v s') E) l b items items2 n n2 dd dd2 sl sl2 hsz I turn (fun s' q => ⟨(fun x => nomatch x), fin s' q⟩) ho ho2 h
end
end GQ
namespace L2
open PySem PySem.Spec PyProof.Rows
/-- != gives False for what D says, and only makes objects -/
def RnG (X : Cx) (n : Nat) (D : Eqv) : Prop :=
  ∀ (A : Around) (pins : List (Addr × Obj)) (s : Shared) (σ : St) (H : Hp) (x y : V) (u v : Value), Sub X n A → Inv X pins σ H s → RelV x u → RelV y v → D x y H →
    wpAny (model X.prog X.w) A (richCompare .NotEq u v) (fun r s' => r = .bool false ∧ ∃ H', Inv X pins σ H' s' ∧ Ext H H') X.xe s
section
variable {X : Cx} {n m : Nat} {D D' : Eqv}
theorem rnG_list (hD : Mon D) (h : EqG X n D) : RnG X (n + 1) (DList D) := by
  intro A pins s σ H x y u v sb I rx ry d
  obtain ⟨a, b, xs, ys, rfl, rfl, ha, hb, p⟩ := d
  cases rx
  cases ry
  refine GQ.rcne_listG (N := xs.length) sb.room.units0 (fun _ s' => LoopI X pins σ H s') (fun i s' q => ?_) (fun s' q => ⟨rfl, q⟩) ⟨H, I, Ext.rfl'⟩
  obtain ⟨H1, I1, e1⟩ := id q
  obtain ⟨z, its, k, r, e⟩ := I1.hok a _ (e1 _ _ ha)
  obtain ⟨z2, its2, k2, r2, e2⟩ := I1.hok b _ (e1 _ _ hb)
  refine ⟨its.toArray, its2.toArray, k, k2, e, e2, by rw [List.size_toArray, ← r.length], by rw [List.size_toArray, ← r2.length, ← p.1], fun h1 h2 => ?_⟩
  exact turnG hD h sb p r r2 i h1 h2 s' q
theorem rnG_tup (hD : Mon D) (h : EqG X n D) : RnG X (n + 1) (DTup X.K D) := by
  intro A pins s σ H x y u v sb I rx ry d
  obtain ⟨a, b, xs, ys, rfl, rfl, ha, hb, p⟩ := d
  cases rx
  cases ry
  obtain ⟨its, r, e, z⟩ := I.tuple ha
  obtain ⟨its2, r2, e2, z2⟩ := I.tuple hb
  have hsz : its.toArray.size = its2.toArray.size := by rw [List.size_toArray, List.size_toArray, ← r.length, ← r2.length]; exact p.1
  exact GQ.rcne_tupG hsz sb.room.units0 (fun _ s' => LoopI X pins σ H s') e e2 (fun i h1 h2 s' q => turnG hD h sb p r r2 i h1 h2 s' q) (fun s' q => ⟨rfl, q⟩) ⟨H, I, Ext.rfl'⟩
/-- the same thing -/
def DSm : Eqv := fun x y _ => x = y ∧ plainV x = true
theorem mon_sm : Mon DSm := fun _ _ _ _ _ d => d
theorem eqG_sm : EqG X 0 DSm := by
  intro A pins s σ H x y u v sb I rx ry d
  obtain ⟨rfl, f⟩ := d
  exact eqAt_plain (A := A) (s := s) rx ry f X.prog X.w X.xe _ ⟨rfl, H, I, Ext.rfl'⟩
theorem Prs.sm {xs : List V} {H : Hp} (h : ∀ v ∈ xs, plainV v = true) : Prs DSm xs xs H := ⟨rfl, fun i x y h1 h2 => by
  rw [h1] at h2
  cases h2
  exact ⟨rfl, h _ (List.mem_of_getElem? h1)⟩⟩
/-- x != y as an expression -/
def rNeG (D : Eqv) : R2 := fun x y H Q => D x y H ∧ ∀ H', Ext H H' → Q (.bl false) H'
theorem op_neG (h : RnG X n D) (hr : Room n X.A) : OpR X (compareOp .NotEq) (rNeG D) := by
  intro pins s σ H x y v u Q I rx ry hq
  obtain ⟨d, q⟩ := hq
  show wpAny (model X.prog X.w) X.A (richCompare .NotEq v u) (EP X pins σ Q) X.xe s
  refine wpAny_mono (h X.A pins s σ H x y v u ⟨hr, rfl⟩ I rx ry d) (fun r s' z => ?_) fun _ _ x => x
  obtain ⟨hr', H', I', e⟩ := z
  subst hr'
  exact ⟨.bl false, H', I', rfl, q H' e⟩
end
end L2

set_option maxRecDepth 100000
set_option maxHeartbeats 4000000
/-! == and != of lists and tuples whose items are compared by own __eq__s, whatever these answer. -/
namespace GQ
open PySem PySem.SeqAt
open AutoSeq1 (wpAny_loadPart')
open MeetsSeq MeetsSeq2 MeetsSeq3 SeqRoads2
section
variable {prog : Program} {w : World} {A : Around} {R : Result → Shared → Prop}
/-- at each turn the two lists are read anew: N items each; what is told of the i-th two -/
def ListB (prog : Program) (w : World) (A : Around) (E : Value → Shared → Prop) (l b : Addr) (N : Nat) (e : Nat → Bool) (I : Nat → Shared → Prop) : Prop :=
  ∀ i s, I i s → ∃ (items items2 : Array Value) (n n2 : Nat), s.heap.get? l = some { cls := .type "list", data := .seq items n } ∧ s.heap.get? b = some { cls := .type "list", data := .seq items2 n2 } ∧ items.size = N ∧ items2.size = N ∧
    ∀ (h1 : i < items.size) (h2 : i < items2.size), wpAny (model prog w) A.in1 (eqBool items[i] items2[i]) (fun r s' => r = e i ∧ I (i + 1) s') E s
theorem eq_loopB (l b : Addr) (N : Nat) (e : Nat → Bool) (B : Bool) (I : Nat → Shared → Prop) (hl : ListB prog w A (fun e s' => R (.error e) s') l b N e I)
    (hB1 : (∀ j, j < N → e j = true) → B = true) (hB0 : ∀ j, j < N → e j = false → B = false)
    (fin : ∀ i s, i ≤ N → I i s → R (.ok (.ret (.bool (B)))) s) (k : Nat) :
    ∀ i : Nat, N - i = k → i ≤ N → (∀ j, j < i → e j = true) → ∀ s, I i s →
      wpAny (model prog w) A.in1 (Builtin.«list.__eq__.loop» ⟨[.ref l, .ref b, rawInt i, rawInt 2], []⟩) (FinOf prog w A R) (fun e s' => R (.error e) s') s := by
  induction k with
  | zero =>
    intro i hk hi he s h
    obtain ⟨items, items2, n, n2, hl1, hb1, hs1, hs2, _⟩ := hl _ _ h
    have hi' : i = N := by omega
    have hb : B = true := hB1 (hi' ▸ he)
    have hR := fin i s hi h
    rw [hb] at hR
    obtain ⟨hp, g, d, tk, os⟩ := s
    wp_walk using wpAny_loadPart' hl1, wpAny_loadPart' hb1
    have hi1 : items[((i : Nat) : Int).toNat]? = none := by simp; omega
    have hi2 : items2[((i : Nat) : Int).toNat]? = none := by simp; omega
    rw [hi1, hi2]
    wp_walk using wpAny_loadPart' hl1, wpAny_loadPart' hb1
    show R (.ok (.ret (.bool (items.size == items2.size)))) _
    rw [hs1, hs2]
    simpa using hR
  | succ k ih =>
    intro i hk hi he s h
    obtain ⟨items, items2, n, n2, hl1, hb1, hs1, hs2, turn⟩ := hl _ _ h
    have hlt : i < items.size := by omega
    have hlt2 : i < items2.size := by omega
    have ht := turn hlt hlt2
    obtain ⟨hp, g, d, tk, os⟩ := s
    wp_walk using wpAny_loadPart' hl1, wpAny_loadPart' hb1
    have hi1 : items[((i : Nat) : Int).toNat]? = some items[i] := by simp [hlt]
    have hi2 : items2[((i : Nat) : Int).toNat]? = some items2[i] := by simp [hlt2]
    have hc : ((i : Int) + 1) = ((i + 1 : Nat) : Int) := by omega
    rw [hi1, hi2]
    refine wpAny_bind (wpAny_mono ht (fun r s2 h2 => ?_) fun _ _ x => x)
    obtain ⟨hr, h2⟩ := h2
    subst hr
    cases ei : e i with
    | true =>
      have hrec := ih (i + 1) (by omega) (by omega) (fun j hj => by
        by_cases q : j = i
        · rw [q]; exact ei
        · exact he j (by omega)) s2 h2
      obtain ⟨hp2, g2, d2, tk2, os2⟩ := s2
      wp_walk
      rw [hc]
      exact ⟨plainId_quiet plain_eq_loop _, codeAny_builtin entry_eq_loop (by
        rw [Around.under_plainId plain_eq_loop _]
        exact hrec)⟩
    | false =>
      have hR := fin (i + 1) s2 (by omega) h2
      rw [hB0 i (by omega) ei] at hR
      obtain ⟨items', items2', n', n2', hl1', hb1', hs1', hs2', _⟩ := hl _ _ h2
      obtain ⟨hp2, g2, d2, tk2, os2⟩ := s2
      have hi1' : items'[((i : Nat) : Int).toNat]? = some (items'[i]'(by omega)) := by simp
      have hi2' : items2'[((i : Nat) : Int).toNat]? = some (items2'[i]'(by omega)) := by simp
      wp_walk using wpAny_loadPart' hl1', wpAny_loadPart' hb1'
      rw [hi1', hi2']
      wp_walk
      simpa using hR
theorem list_eqB (l b : Addr) (N : Nat) (e : Nat → Bool) (B : Bool) (I : Nat → Shared → Prop) (hl : ListB prog w A (fun e s' => R (.error e) s') l b N e I)
    (hB1 : (∀ j, j < N → e j = true) → B = true) (hB0 : ∀ j, j < N → e j = false → B = false)
    (fin : ∀ i s, i ≤ N → I i s → R (.ok (.ret (.bool (B)))) s) {s : Shared} (h : I 0 s) :
    wpAny (model prog w) A.in1 (Builtin.«list.__eq__» ⟨[.ref l, .ref b], []⟩) (FinOf prog w A R) (fun e s' => R (.error e) s') s := by
  obtain ⟨items, items2, n, n2, hl1, hb1, hs1, hs2, _⟩ := hl _ _ h
  have hrec := eq_loopB (A := A) (R := R) l b N e B I hl hB1 hB0 fin _ 0 rfl (Nat.zero_le _) (fun j hj => absurd hj (Nat.not_lt_zero j)) s h
  obtain ⟨hp, g, d, tk, os⟩ := s
  have f3 := AutoSeq1.sub_list_list
  have hne : ¬ (items.size != items2.size) = true := by simp [hs1, hs2]
  wp_walk using wpAny_loadPart' hl1, wpAny_loadPart' hb1
  exact ⟨plainId_quiet plain_eq_loop _, codeAny_builtin entry_eq_loop (by
    rw [Around.under_plainId plain_eq_loop _]
    exact hrec)⟩
theorem tuple_eqB (l b : Addr) (items items2 : Array Value) (n n2 : Nat) (dd dd2 : Option Addr) (sl sl2 : Array (Option Value)) (e : Nat → Bool) (B : Bool) (I : Nat → Shared → Prop)
    (hB1 : (∀ j, j < min items.size items2.size → e j = true) → B = (items.size == items2.size)) (hB0 : ∀ j, j < min items.size items2.size → e j = false → B = false)
    (turn : ∀ i (h1 : i < items.size) (h2 : i < items2.size) s, I i s → wpAny (model prog w) A.in1 (eqBool items[i] items2[i]) (fun r s' => r = e i ∧ I (i + 1) s') (fun e s' => R (.error e) s') s)
    (fin : ∀ i s, I i s → R (.ok (.ret (.bool (B)))) s) {s : Shared} (hl1 : s.heap.get? l = some { cls := .type "tuple", dict := dd, data := .seq items n, slots := sl }) (hb1 : s.heap.get? b = some { cls := .type "tuple", dict := dd2, data := .seq items2 n2, slots := sl2 }) (h : I 0 s) :
    wpAny (model prog w) A.in1 (Builtin.«tuple.__eq__» ⟨[.ref l, .ref b], []⟩) (FinOf prog w A R) (fun e s' => R (.error e) s') s := by
  have f2 := AutoSeq1.sub_tuple_tuple
  have hZ : (items.toList.zip items2.toList).length = min items.size items2.size := by simp
  have h0 := h
  obtain ⟨hp, g, d, tk, os⟩ := s
  wp_walk using wpAny_loadPart' hl1, wpAny_loadPart' hb1, wpAny_forIn_list _ (fun rest b s' => b.1 = none ∧ ∃ i, rest = (items.toList.zip items2.toList).drop i ∧ (∀ j, j < i → j < min items.size items2.size → e j = true) ∧ I i s') _
  case turn =>
    rintro ⟨y, x⟩ rest b s' ⟨hb', i, hz, hi, hI⟩
    have hlt : i < (items.toList.zip items2.toList).length := by
      rcases Nat.lt_or_ge i (items.toList.zip items2.toList).length with h' | h'
      · exact h'
      · rw [List.drop_of_length_le h'] at hz; cases hz
    have hm : i < min items.size items2.size := hZ ▸ hlt
    have h1 : i < items.size := Nat.lt_of_lt_of_le hm (Nat.min_le_left _ _)
    have h2 : i < items2.size := Nat.lt_of_lt_of_le hm (Nat.min_le_right _ _)
    rw [List.drop_eq_getElem_cons hlt] at hz
    injection hz with hyx hrest
    have hy : y = items[i] := by have := congrArg Prod.fst hyx; simpa using this
    have hx : x = items2[i] := by have := congrArg Prod.snd hyx; simpa using this
    subst hy hx
    refine wpAny_bind (wpAny_mono (turn i h1 h2 s' hI) (fun r s2 q2 => ?_) fun _ _ x => x)
    obtain ⟨hr, q2⟩ := q2
    subst hr
    cases ei : e i with
    | true =>
      wp_walk
      exact ⟨rfl, i + 1, hrest, fun j hj hj2 => by
        by_cases q : j = i
        · rw [q]; exact ei
        · exact hi j (by omega) hj2, q2⟩
    | false =>
      have hR := fin _ _ q2
      rw [hB0 i hm ei] at hR
      wp_walk
      simpa using hR
  case fin =>
    rintro ⟨b1, b2⟩ s' ⟨hb', i, hz, hi, hI⟩
    simp only at hb'
    subst hb'
    have hge : min items.size items2.size ≤ i := by
      rcases Nat.lt_or_ge i (items.toList.zip items2.toList).length with h' | h'
      · rw [List.drop_eq_getElem_cons h'] at hz; cases hz
      · exact hZ ▸ h'
    have hR := fin _ _ hI
    rw [hB1 fun j hj => hi j (by omega) hj] at hR
    wp_walk
    simpa [Builtin.Tuple.tupleCompareSizes] using hR
  case h =>
    exact ⟨rfl, 0, rfl, fun j hj => absurd hj (Nat.not_lt_zero j), h0⟩
theorem ne_loopB (l b : Addr) (N : Nat) (e : Nat → Bool) (B : Bool) (I : Nat → Shared → Prop) (hl : ListB prog w A (fun e s' => R (.error e) s') l b N e I)
    (hB1 : (∀ j, j < N → e j = true) → B = true) (hB0 : ∀ j, j < N → e j = false → B = false)
    (fin : ∀ i s, i ≤ N → I i s → R (.ok (.ret (.bool (!B)))) s) (k : Nat) :
    ∀ i : Nat, N - i = k → i ≤ N → (∀ j, j < i → e j = true) → ∀ s, I i s →
      wpAny (model prog w) A.in1 (Builtin.«list.__eq__.loop» ⟨[.ref l, .ref b, rawInt i, rawInt 3], []⟩) (FinOf prog w A R) (fun e s' => R (.error e) s') s := by
  induction k with
  | zero =>
    intro i hk hi he s h
    obtain ⟨items, items2, n, n2, hl1, hb1, hs1, hs2, _⟩ := hl _ _ h
    have hi' : i = N := by omega
    have hb : B = true := hB1 (hi' ▸ he)
    have hR := fin i s hi h
    rw [hb] at hR
    obtain ⟨hp, g, d, tk, os⟩ := s
    wp_walk using wpAny_loadPart' hl1, wpAny_loadPart' hb1
    have hi1 : items[((i : Nat) : Int).toNat]? = none := by simp; omega
    have hi2 : items2[((i : Nat) : Int).toNat]? = none := by simp; omega
    rw [hi1, hi2]
    wp_walk using wpAny_loadPart' hl1, wpAny_loadPart' hb1
    show R (.ok (.ret (.bool (items.size != items2.size)))) _
    rw [hs1, hs2]
    simpa using hR
  | succ k ih =>
    intro i hk hi he s h
    obtain ⟨items, items2, n, n2, hl1, hb1, hs1, hs2, turn⟩ := hl _ _ h
    have hlt : i < items.size := by omega
    have hlt2 : i < items2.size := by omega
    have ht := turn hlt hlt2
    obtain ⟨hp, g, d, tk, os⟩ := s
    wp_walk using wpAny_loadPart' hl1, wpAny_loadPart' hb1
    have hi1 : items[((i : Nat) : Int).toNat]? = some items[i] := by simp [hlt]
    have hi2 : items2[((i : Nat) : Int).toNat]? = some items2[i] := by simp [hlt2]
    have hc : ((i : Int) + 1) = ((i + 1 : Nat) : Int) := by omega
    rw [hi1, hi2]
    refine wpAny_bind (wpAny_mono ht (fun r s2 h2 => ?_) fun _ _ x => x)
    obtain ⟨hr, h2⟩ := h2
    subst hr
    cases ei : e i with
    | true =>
      have hrec := ih (i + 1) (by omega) (by omega) (fun j hj => by
        by_cases q : j = i
        · rw [q]; exact ei
        · exact he j (by omega)) s2 h2
      obtain ⟨hp2, g2, d2, tk2, os2⟩ := s2
      wp_walk
      rw [hc]
      exact ⟨plainId_quiet plain_eq_loop _, codeAny_builtin entry_eq_loop (by
        rw [Around.under_plainId plain_eq_loop _]
        exact hrec)⟩
    | false =>
      have hR := fin (i + 1) s2 (by omega) h2
      rw [hB0 i (by omega) ei] at hR
      obtain ⟨items', items2', n', n2', hl1', hb1', hs1', hs2', _⟩ := hl _ _ h2
      obtain ⟨hp2, g2, d2, tk2, os2⟩ := s2
      have hi1' : items'[((i : Nat) : Int).toNat]? = some (items'[i]'(by omega)) := by simp
      have hi2' : items2'[((i : Nat) : Int).toNat]? = some (items2'[i]'(by omega)) := by simp
      wp_walk using wpAny_loadPart' hl1', wpAny_loadPart' hb1'
      rw [hi1', hi2']
      wp_walk
      simpa using hR
theorem list_neB (l b : Addr) (N : Nat) (e : Nat → Bool) (B : Bool) (I : Nat → Shared → Prop) (hl : ListB prog w A (fun e s' => R (.error e) s') l b N e I)
    (hB1 : (∀ j, j < N → e j = true) → B = true) (hB0 : ∀ j, j < N → e j = false → B = false)
    (fin : ∀ i s, i ≤ N → I i s → R (.ok (.ret (.bool (!B)))) s) {s : Shared} (h : I 0 s) :
    wpAny (model prog w) A.in1 (Builtin.«list.__ne__» ⟨[.ref l, .ref b], []⟩) (FinOf prog w A R) (fun e s' => R (.error e) s') s := by
  obtain ⟨items, items2, n, n2, hl1, hb1, hs1, hs2, _⟩ := hl _ _ h
  have hrec := ne_loopB (A := A) (R := R) l b N e B I hl hB1 hB0 fin _ 0 rfl (Nat.zero_le _) (fun j hj => absurd hj (Nat.not_lt_zero j)) s h
  obtain ⟨hp, g, d, tk, os⟩ := s
  have f3 := AutoSeq1.sub_list_list
  have hne : ¬ (items.size != items2.size) = true := by simp [hs1, hs2]
  wp_walk using wpAny_loadPart' hl1, wpAny_loadPart' hb1
  exact ⟨plainId_quiet plain_eq_loop _, codeAny_builtin entry_eq_loop (by
    rw [Around.under_plainId plain_eq_loop _]
    exact hrec)⟩
theorem tuple_neB (l b : Addr) (items items2 : Array Value) (n n2 : Nat) (dd dd2 : Option Addr) (sl sl2 : Array (Option Value)) (e : Nat → Bool) (B : Bool) (I : Nat → Shared → Prop)
    (hB1 : (∀ j, j < min items.size items2.size → e j = true) → B = (items.size == items2.size)) (hB0 : ∀ j, j < min items.size items2.size → e j = false → B = false)
    (turn : ∀ i (h1 : i < items.size) (h2 : i < items2.size) s, I i s → wpAny (model prog w) A.in1 (eqBool items[i] items2[i]) (fun r s' => r = e i ∧ I (i + 1) s') (fun e s' => R (.error e) s') s)
    (fin : ∀ i s, I i s → R (.ok (.ret (.bool (!B)))) s) {s : Shared} (hl1 : s.heap.get? l = some { cls := .type "tuple", dict := dd, data := .seq items n, slots := sl }) (hb1 : s.heap.get? b = some { cls := .type "tuple", dict := dd2, data := .seq items2 n2, slots := sl2 }) (h : I 0 s) :
    wpAny (model prog w) A.in1 (Builtin.«tuple.__ne__» ⟨[.ref l, .ref b], []⟩) (FinOf prog w A R) (fun e s' => R (.error e) s') s := by
  have f2 := AutoSeq1.sub_tuple_tuple
  have hZ : (items.toList.zip items2.toList).length = min items.size items2.size := by simp
  have h0 := h
  obtain ⟨hp, g, d, tk, os⟩ := s
  wp_walk using wpAny_loadPart' hl1, wpAny_loadPart' hb1, wpAny_forIn_list _ (fun rest b s' => b.1 = none ∧ ∃ i, rest = (items.toList.zip items2.toList).drop i ∧ (∀ j, j < i → j < min items.size items2.size → e j = true) ∧ I i s') _
  case turn =>
    rintro ⟨y, x⟩ rest b s' ⟨hb', i, hz, hi, hI⟩
    have hlt : i < (items.toList.zip items2.toList).length := by
      rcases Nat.lt_or_ge i (items.toList.zip items2.toList).length with h' | h'
      · exact h'
      · rw [List.drop_of_length_le h'] at hz; cases hz
    have hm : i < min items.size items2.size := hZ ▸ hlt
    have h1 : i < items.size := Nat.lt_of_lt_of_le hm (Nat.min_le_left _ _)
    have h2 : i < items2.size := Nat.lt_of_lt_of_le hm (Nat.min_le_right _ _)
    rw [List.drop_eq_getElem_cons hlt] at hz
    injection hz with hyx hrest
    have hy : y = items[i] := by have := congrArg Prod.fst hyx; simpa using this
    have hx : x = items2[i] := by have := congrArg Prod.snd hyx; simpa using this
    subst hy hx
    refine wpAny_bind (wpAny_mono (turn i h1 h2 s' hI) (fun r s2 q2 => ?_) fun _ _ x => x)
    obtain ⟨hr, q2⟩ := q2
    subst hr
    cases ei : e i with
    | true =>
      wp_walk
      exact ⟨rfl, i + 1, hrest, fun j hj hj2 => by
        by_cases q : j = i
        · rw [q]; exact ei
        · exact hi j (by omega) hj2, q2⟩
    | false =>
      have hR := fin _ _ q2
      rw [hB0 i hm ei] at hR
      wp_walk
      simpa using hR
  case fin =>
    rintro ⟨b1, b2⟩ s' ⟨hb', i, hz, hi, hI⟩
    simp only at hb'
    subst hb'
    have hge : min items.size items2.size ≤ i := by
      rcases Nat.lt_or_ge i (items.toList.zip items2.toList).length with h' | h'
      · rw [List.drop_eq_getElem_cons h'] at hz; cases hz
      · exact hZ ▸ h'
    have hR := fin _ _ hI
    rw [hB1 fun j hj => hi j (by omega) hj] at hR
    wp_walk
    simpa [Builtin.Tuple.tupleCompareSizes, bne] using hR
  case h =>
    exact ⟨rfl, 0, rfl, fun j hj => absurd hj (Nat.not_lt_zero j), h0⟩
end
section
variable {prog : Program} {w : World} {A : Around} {E : Value → Shared → Prop} {s : Shared}
theorem rceq_listB {l b : Addr} {N : Nat} {e : Nat → Bool} {B : Bool} {Q : Value → Shared → Prop} (hu : A.units < cLine) (I : Nat → Shared → Prop) (hl : ListB prog w A E l b N e I)
    (hB1 : (∀ j, j < N → e j = true) → B = true) (hB0 : ∀ j, j < N → e j = false → B = false)
    (fin : ∀ i s, i ≤ N → I i s → Q (.bool (B)) s) (h : I 0 s) : wpAny (model prog w) A (richCompare .Eq (.ref l) (.ref b)) Q E s := by
  obtain ⟨items, items2, n, n2, hl1, hb1, _, _, _⟩ := hl _ _ h
  refine wpAny_richCompare_same_room (op := .Eq) ⟨_, hl1, rfl⟩ ⟨_, hb1, rfl⟩ F.slot_list_eq (call_here F.slot_list_eq ⟨_, hl1, rfl⟩ F.entry_list_eq (F.args_list_eq_2 _ _) ?_) hu
  exact list_eqB (R := wants (fun v s' => v ≠ .notImplemented ∧ Q v s') E) l b N e B I hl hB1 hB0 (fun i s' li q => ⟨(fun x => nomatch x), fin i s' li q⟩) h
theorem rceq_tupB {l b : Addr} {items items2 : Array Value} {e : Nat → Bool} {B : Bool} {Q : Value → Shared → Prop} (hu : A.units < cLine) (I : Nat → Shared → Prop)
    (hl : s.heap.IsTuple l items) (hb : s.heap.IsTuple b items2)
    (hB1 : (∀ j, j < min items.size items2.size → e j = true) → B = (items.size == items2.size)) (hB0 : ∀ j, j < min items.size items2.size → e j = false → B = false)
    (turn : ∀ i (h1 : i < items.size) (h2 : i < items2.size) s, I i s → wpAny (model prog w) A.in1 (eqBool items[i] items2[i]) (fun r s' => r = e i ∧ I (i + 1) s') E s)
    (fin : ∀ i s, I i s → Q (.bool (B)) s) (h : I 0 s) : wpAny (model prog w) A (richCompare .Eq (.ref l) (.ref b)) Q E s := by
  obtain ⟨⟨cls, dd, data, sl⟩, ho, hc, n, hd⟩ := id hl
  obtain ⟨⟨cls2, dd2, data2, sl2⟩, ho2, hc2, n2, hd2⟩ := id hb
  simp only at hc hd hc2 hd2
  subst hc hd hc2 hd2
  refine wpAny_richCompare_same_room (op := .Eq) ⟨_, ho, rfl⟩ ⟨_, ho2, rfl⟩ F.slot_tuple_eq (call_here F.slot_tuple_eq ⟨_, ho, rfl⟩ F.entry_tuple_eq (F.args_tuple_eq_2 _ _) ?_) hu
  exact tuple_eqB (R := wants (fun v s' => v ≠ .notImplemented ∧ Q v s') E) l b items items2 n n2 dd dd2 sl sl2 e B I hB1 hB0 turn (fun i s' q => ⟨(fun x => nomatch x), fin i s' q⟩) ho ho2 h
theorem rcne_listB {l b : Addr} {N : Nat} {e : Nat → Bool} {B : Bool} {Q : Value → Shared → Prop} (hu : A.units < cLine) (I : Nat → Shared → Prop) (hl : ListB prog w A E l b N e I)
    (hB1 : (∀ j, j < N → e j = true) → B = true) (hB0 : ∀ j, j < N → e j = false → B = false)
    (fin : ∀ i s, i ≤ N → I i s → Q (.bool (!B)) s) (h : I 0 s) : wpAny (model prog w) A (richCompare .NotEq (.ref l) (.ref b)) Q E s := by
  obtain ⟨items, items2, n, n2, hl1, hb1, _, _, _⟩ := hl _ _ h
  refine wpAny_richCompare_same_room (op := .NotEq) ⟨_, hl1, rfl⟩ ⟨_, hb1, rfl⟩ F.slot_list_ne (call_here F.slot_list_ne ⟨_, hl1, rfl⟩ F.entry_list_ne (F.args_list_ne_2 _ _) ?_) hu
  exact list_neB (R := wants (fun v s' => v ≠ .notImplemented ∧ Q v s') E) l b N e B I hl hB1 hB0 (fun i s' li q => ⟨(fun x => nomatch x), fin i s' li q⟩) h
theorem rcne_tupB {l b : Addr} {items items2 : Array Value} {e : Nat → Bool} {B : Bool} {Q : Value → Shared → Prop} (hu : A.units < cLine) (I : Nat → Shared → Prop)
    (hl : s.heap.IsTuple l items) (hb : s.heap.IsTuple b items2)
    (hB1 : (∀ j, j < min items.size items2.size → e j = true) → B = (items.size == items2.size)) (hB0 : ∀ j, j < min items.size items2.size → e j = false → B = false)
    (turn : ∀ i (h1 : i < items.size) (h2 : i < items2.size) s, I i s → wpAny (model prog w) A.in1 (eqBool items[i] items2[i]) (fun r s' => r = e i ∧ I (i + 1) s') E s)
    (fin : ∀ i s, I i s → Q (.bool (!B)) s) (h : I 0 s) : wpAny (model prog w) A (richCompare .NotEq (.ref l) (.ref b)) Q E s := by
  obtain ⟨⟨cls, dd, data, sl⟩, ho, hc, n, hd⟩ := id hl
  obtain ⟨⟨cls2, dd2, data2, sl2⟩, ho2, hc2, n2, hd2⟩ := id hb
  simp only at hc hd hc2 hd2
  subst hc hd hc2 hd2
  refine wpAny_richCompare_same_room (op := .NotEq) ⟨_, ho, rfl⟩ ⟨_, ho2, rfl⟩ F.slot_tuple_ne (call_here F.slot_tuple_ne ⟨_, ho, rfl⟩ F.entry_tuple_ne (F.args_tuple_ne_2 _ _) ?_) hu
  exact tuple_neB (R := wants (fun v s' => v ≠ .notImplemented ∧ Q v s') E) l b items items2 n n2 dd dd2 sl sl2 e B I hB1 hB0 turn (fun i s' q => ⟨(fun x => nomatch x), fin i s' q⟩) ho ho2 h
end
end GQ
namespace L2
open PySem PySem.Spec PyProof.Rows
/-- what is told of two values compared -/
abbrev Eqb := V → V → Bool → Hp → Prop
def MonB (D : Eqb) : Prop := ∀ x y b H H', Ext H H' → D x y b H → D x y b H'
/-- == gives what D says, and only makes objects -/
def EqB (X : Cx) (n : Nat) (D : Eqb) : Prop :=
  ∀ (A : Around) (pins : List (Addr × Obj)) (s : Shared) (σ : St) (H : Hp) (x y : V) (b : Bool) (u v : Value), Sub X n A → Inv X pins σ H s → RelV x u → RelV y v → D x y b H →
    wpAny (model X.prog X.w) A (eqBool u v) (fun r s' => r = b ∧ ∃ H', Inv X pins σ H' s' ∧ Ext H H') X.xe s
def RcB (X : Cx) (n : Nat) (D : Eqb) : Prop :=
  ∀ (A : Around) (pins : List (Addr × Obj)) (s : Shared) (σ : St) (H : Hp) (x y : V) (b : Bool) (u v : Value), Sub X n A → Inv X pins σ H s → RelV x u → RelV y v → D x y b H →
    wpAny (model X.prog X.w) A (richCompare .Eq u v) (fun r s' => r = .bool b ∧ ∃ H', Inv X pins σ H' s' ∧ Ext H H') X.xe s
def RnB (X : Cx) (n : Nat) (D : Eqb) : Prop :=
  ∀ (A : Around) (pins : List (Addr × Obj)) (s : Shared) (σ : St) (H : Hp) (x y : V) (b : Bool) (u v : Value), Sub X n A → Inv X pins σ H s → RelV x u → RelV y v → D x y b H →
    wpAny (model X.prog X.w) A (richCompare .NotEq u v) (fun r s' => r = .bool (!b) ∧ ∃ H', Inv X pins σ H' s' ∧ Ext H H') X.xe s
section
variable {X : Cx} {n m : Nat} {D D' : Eqb}
theorem EqB.mono (h : EqB X n D) (hn : n ≤ m) : EqB X m D := fun A pins s σ H x y b u v sb => h A pins s σ H x y b u v (sb.mono hn)
theorem EqB.or (h : EqB X n D) (h' : EqB X n D') : EqB X n (fun x y b H => D x y b H ∨ D' x y b H) := fun A pins s σ H x y b u v sb I rx ry d => by
  rcases d with d | d
  · exact h A pins s σ H x y b u v sb I rx ry d
  · exact h' A pins s σ H x y b u v sb I rx ry d
theorem MonB.or (h : MonB D) (h' : MonB D') : MonB (fun x y b H => D x y b H ∨ D' x y b H) := fun x y b H H' e d => d.elim (fun d => .inl (h x y b H H' e d)) fun d => .inr (h' x y b H H' e d)
/-- flat values -/
def BFlat : Eqb := fun x y b _ => flatV x = true ∧ flatV y = true ∧ eqV x y = b
theorem monB_flat : MonB BFlat := fun _ _ _ _ _ _ d => d
theorem eqB_flat : EqB X 0 BFlat := by
  intro A pins s σ H x y b u v sb I rx ry d
  obtain ⟨fx, fy, e⟩ := d
  have q := eqAt_V (A := A) (s := s) rx ry fx fy
  rw [e] at q
  exact q X.prog X.w X.xe _ ⟨rfl, H, I, Ext.rfl'⟩
/-- trees without dicts: == tells something -/
def BTr (K : PySem.W.Frag) : Eqb := fun x y b H => ∃ t u, At K H x t ∧ At K H y u ∧ Tr.eq t u = some b ∧ t.dep ≤ 60
theorem monB_tr {K : PySem.W.Frag} : MonB (BTr K) := fun x y b H H' e ⟨t, u, h1, h2, q, d⟩ => ⟨t, u, h1.same e, h2.same e, q, d⟩
theorem eqB_tr : EqB X 0 (BTr X.K) := by
  intro A pins s σ H x y b u v sb I rx ry d
  obtain ⟨t, t', h1, h2, e, dp⟩ := d
  exact eqAt_T I t t' b e (A := A) h1 h2 rx ry (by have := sb.room.un; omega) X.prog X.w X.xe _ ⟨rfl, H, I, Ext.rfl'⟩
/-- item by item -/
def PrsB (D : Eqb) (xs ys : List V) (bs : List Bool) (H : Hp) : Prop := bs.length = min xs.length ys.length ∧ ∀ (i : Nat) x y b, xs[i]? = some x → ys[i]? = some y → bs[i]? = some b → D x y b H
theorem PrsB.mon (hD : MonB D) {xs ys : List V} {bs : List Bool} {H H' : Hp} (e : Ext H H') (p : PrsB D xs ys bs H) : PrsB D xs ys bs H' := ⟨p.1, fun i x y b h1 h2 h3 => hD x y b H H' e (p.2 i x y b h1 h2 h3)⟩
theorem PrsB.nil {H : Hp} {ys : List V} : PrsB D [] ys [] H := ⟨by simp, fun i x y b h _ _ => by simp at h⟩
theorem PrsB.nil' {H : Hp} {xs : List V} : PrsB D xs [] [] H := ⟨by simp, fun i x y b _ h _ => by simp at h⟩
theorem PrsB.cons {x y : V} {b : Bool} {xs ys : List V} {bs : List Bool} {H : Hp} (h : D x y b H) (p : PrsB D xs ys bs H) : PrsB D (x :: xs) (y :: ys) (b :: bs) H := by
  refine ⟨by rw [List.length_cons, List.length_cons, List.length_cons, p.1]; omega, fun i a c d h1 h2 h3 => ?_⟩
  cases i with
  | zero =>
    simp at h1 h2 h3
    subst h1; subst h2; subst h3
    exact h
  | succ i =>
    simp at h1 h2 h3
    exact p.2 i a c d h1 h2 h3
theorem turnB' (hD : MonB D) (h : EqB X n D) {A : Around} (sb : Sub X (n + 1) A) {pins : List (Addr × Obj)} {σ : St} {H : Hp} {xs ys : List V} {bs : List Bool} {its its2 : List Value} (p : PrsB D xs ys bs H) (r : Vals xs its) (r2 : Vals ys its2)
    (i : Nat) (h1 : i < its.toArray.size) (h2 : i < its2.toArray.size) (s' : Shared) (l : LoopI X pins σ H s') :
    wpAny (model X.prog X.w) A.in1 (eqBool its.toArray[i] its2.toArray[i]) (fun r s2 => r = bs.getD i true ∧ LoopI X pins σ H s2) X.xe s' := by
  obtain ⟨H1, I1, e1⟩ := l
  have g1 : its[i]? = some its.toArray[i] := by
    have h1' : i < its.length := by simpa using h1
    rw [List.getElem?_eq_getElem h1'] <;> simp
  have g2 : its2[i]? = some its2.toArray[i] := by
    have h2' : i < its2.length := by simpa using h2
    rw [List.getElem?_eq_getElem h2'] <;> simp
  have k1 : i < xs.length := by rw [r.length]; simpa using h1
  have k2 : i < ys.length := by rw [r2.length]; simpa using h2
  have k3 : i < bs.length := by rw [p.1]; omega
  obtain ⟨u, hu, ru⟩ := r.get (List.getElem?_eq_getElem k1)
  obtain ⟨v, hv, rv⟩ := r2.get (List.getElem?_eq_getElem k2)
  rw [g1] at hu
  rw [g2] at hv
  rw [Option.some.inj hu, Option.some.inj hv]
  have eb : bs.getD i true = bs[i] := by rw [List.getD_eq_getElem?_getD, List.getElem?_eq_getElem k3]; rfl
  refine wpAny_mono (h A.in1 pins s' σ H1 _ _ bs[i] u v sb.in1 I1 ru rv (hD _ _ _ _ _ e1 (p.2 i _ _ _ (List.getElem?_eq_getElem k1) (List.getElem?_eq_getElem k2) (List.getElem?_eq_getElem k3)))) (fun r s2 q => ?_) fun _ _ x => x
  obtain ⟨hr, H2, I2, e2⟩ := q
  exact ⟨hr.trans eb.symm, H2, I2, e1.trans e2⟩
/-- the answer over the items -/
def ansB (bs : List Bool) (m n : Nat) : Bool := bs.all id && m == n
theorem ans1 {bs : List Bool} {m n N : Nat} (l : bs.length = N) (h : ∀ j, j < N → bs.getD j true = true) : ansB bs m n = (m == n) := by
  unfold ansB
  have : bs.all id = true := by
    rw [List.all_eq_true]
    intro b hb
    obtain ⟨j, lj, e⟩ := List.mem_iff_getElem.mp hb
    have := h j (by omega)
    rw [List.getD_eq_getElem?_getD, List.getElem?_eq_getElem lj, e] at this
    exact this
  rw [this, Bool.true_and]
theorem ans0 {bs : List Bool} {m n : Nat} (j : Nat) (l : j < bs.length) (h : bs.getD j true = false) : ansB bs m n = false := by
  unfold ansB
  have : bs.all id = false := by
    rw [← Bool.not_eq_true, List.all_eq_true]
    intro a
    have := a bs[j] (List.getElem_mem l)
    rw [List.getD_eq_getElem?_getD, List.getElem?_eq_getElem l] at h
    rw [show bs[j] = false from h] at this
    cases this
  rw [this, Bool.false_and]
def BList (D : Eqb) : Eqb := fun x y b H => ∃ a c xs ys bs, x = .ref a ∧ y = .ref c ∧ H a = some (.lst xs) ∧ H c = some (.lst ys) ∧ PrsB D xs ys bs H ∧ b = ansB bs xs.length ys.length
def BTup (K : PySem.W.Frag) (D : Eqb) : Eqb := fun x y b H => ∃ a c xs ys bs, x = .ref a ∧ y = .ref c ∧ SqT K H a xs ∧ SqT K H c ys ∧ PrsB D xs ys bs H ∧ b = ansB bs xs.length ys.length
theorem monB_list (hD : MonB D) : MonB (BList D) := fun x y b H H' e d => by
  obtain ⟨a, c, xs, ys, bs, hx, hy, h1, h2, p, eb⟩ := d
  exact ⟨a, c, xs, ys, bs, hx, hy, e _ _ h1, e _ _ h2, p.mon hD e, eb⟩
theorem monB_tup {K : PySem.W.Frag} (hD : MonB D) : MonB (BTup K D) := fun x y b H H' e d => by
  obtain ⟨a, c, xs, ys, bs, hx, hy, h1, h2, p, eb⟩ := d
  exact ⟨a, c, xs, ys, bs, hx, hy, h1.ext e, h2.ext e, p.mon hD e, eb⟩
theorem rcB_list (hD : MonB D) (h : EqB X n D) : RcB X (n + 1) (BList D) := by
  intro A pins s σ H x y b u v sb I rx ry d
  obtain ⟨a, c, xs, ys, bs, rfl, rfl, ha, hb, p, rfl⟩ := d
  cases rx
  cases ry
  by_cases ll : xs.length = ys.length
  · refine GQ.rceq_listB (N := xs.length) (e := fun j => bs.getD j true) sb.room.units0 (fun _ s' => LoopI X pins σ H s') (fun i s' q => ?_) (fun q => (ans1 (by rw [p.1]; omega) q).trans (by simp [ll])) (fun j lj q => ans0 j (by rw [p.1]; omega) q) (fun i s' _ q => ⟨rfl, q⟩) ⟨H, I, Ext.rfl'⟩
    obtain ⟨H1, I1, e1⟩ := id q
    obtain ⟨z, its, k, r, e⟩ := I1.hok a _ (e1 _ _ ha)
    obtain ⟨z2, its2, k2, r2, e2⟩ := I1.hok c _ (e1 _ _ hb)
    refine ⟨its.toArray, its2.toArray, k, k2, e, e2, by rw [List.size_toArray, ← r.length], by rw [List.size_toArray, ← r2.length, ← ll], fun h1 h2 => ?_⟩
    exact turnB' hD h sb p r r2 i h1 h2 s' q
  · obtain ⟨z, its, k, r, e⟩ := I.hok a _ ha
    obtain ⟨z2, its2, k2, r2, e2⟩ := I.hok c _ hb
    have eb : ansB bs xs.length ys.length = false := by
      unfold ansB
      rw [show (xs.length == ys.length) = false from beq_eq_false_iff_ne.mpr ll, Bool.and_false]
    rw [eb]
    refine SeqAt.RcAt.lists_lengths ⟨_, e, rfl, k, rfl⟩ ⟨_, e2, rfl, k2, rfl⟩ ?_ sb.room.units0 X.prog X.w X.xe _ ⟨rfl, H, I, Ext.rfl'⟩
    rw [List.size_toArray, List.size_toArray, ← r.length, ← r2.length]
    simpa using ll
theorem rnB_list (hD : MonB D) (h : EqB X n D) : RnB X (n + 1) (BList D) := by
  intro A pins s σ H x y b u v sb I rx ry d
  obtain ⟨a, c, xs, ys, bs, rfl, rfl, ha, hb, p, rfl⟩ := d
  cases rx
  cases ry
  by_cases ll : xs.length = ys.length
  · refine GQ.rcne_listB (N := xs.length) (e := fun j => bs.getD j true) sb.room.units0 (fun _ s' => LoopI X pins σ H s') (fun i s' q => ?_) (fun q => (ans1 (by rw [p.1]; omega) q).trans (by simp [ll])) (fun j lj q => ans0 j (by rw [p.1]; omega) q) (fun i s' _ q => ⟨rfl, q⟩) ⟨H, I, Ext.rfl'⟩
    obtain ⟨H1, I1, e1⟩ := id q
    obtain ⟨z, its, k, r, e⟩ := I1.hok a _ (e1 _ _ ha)
    obtain ⟨z2, its2, k2, r2, e2⟩ := I1.hok c _ (e1 _ _ hb)
    refine ⟨its.toArray, its2.toArray, k, k2, e, e2, by rw [List.size_toArray, ← r.length], by rw [List.size_toArray, ← r2.length, ← ll], fun h1 h2 => ?_⟩
    exact turnB' hD h sb p r r2 i h1 h2 s' q
  · obtain ⟨z, its, k, r, e⟩ := I.hok a _ ha
    obtain ⟨z2, its2, k2, r2, e2⟩ := I.hok c _ hb
    have eb : ansB bs xs.length ys.length = false := by
      unfold ansB
      rw [show (xs.length == ys.length) = false from beq_eq_false_iff_ne.mpr ll, Bool.and_false]
    rw [eb]
    refine SeqAt.RcNeAt.lists_lengths ⟨_, e, rfl, k, rfl⟩ ⟨_, e2, rfl, k2, rfl⟩ ?_ sb.room.units0 X.prog X.w X.xe _ ⟨rfl, H, I, Ext.rfl'⟩
    rw [List.size_toArray, List.size_toArray, ← r.length, ← r2.length]
    simpa using ll
theorem rcB_tup (hD : MonB D) (h : EqB X n D) : RcB X (n + 1) (BTup X.K D) := by
  intro A pins s σ H x y b u v sb I rx ry d
  obtain ⟨a, c, xs, ys, bs, rfl, rfl, ha, hb, p, rfl⟩ := d
  cases rx
  cases ry
  obtain ⟨its, r, e, z⟩ := I.tuple ha
  obtain ⟨its2, r2, e2, z2⟩ := I.tuple hb
  have l1 : its.toArray.size = xs.length := by rw [List.size_toArray, ← r.length]
  have l2 : its2.toArray.size = ys.length := by rw [List.size_toArray, ← r2.length]
  exact GQ.rceq_tupB (e := fun j => bs.getD j true) sb.room.units0 (fun _ s' => LoopI X pins σ H s') e e2 (fun q => (ans1 (by rw [p.1, l1, l2]) q).trans (by rw [l1, l2])) (fun j lj q => ans0 j (by rw [p.1, ← l1, ← l2]; exact lj) q) (fun i h1 h2 s' q => turnB' hD h sb p r r2 i h1 h2 s' q) (fun i s' q => ⟨rfl, q⟩) ⟨H, I, Ext.rfl'⟩
theorem rnB_tup (hD : MonB D) (h : EqB X n D) : RnB X (n + 1) (BTup X.K D) := by
  intro A pins s σ H x y b u v sb I rx ry d
  obtain ⟨a, c, xs, ys, bs, rfl, rfl, ha, hb, p, rfl⟩ := d
  cases rx
  cases ry
  obtain ⟨its, r, e, z⟩ := I.tuple ha
  obtain ⟨its2, r2, e2, z2⟩ := I.tuple hb
  have l1 : its.toArray.size = xs.length := by rw [List.size_toArray, ← r.length]
  have l2 : its2.toArray.size = ys.length := by rw [List.size_toArray, ← r2.length]
  exact GQ.rcne_tupB (e := fun j => bs.getD j true) sb.room.units0 (fun _ s' => LoopI X pins σ H s') e e2 (fun q => (ans1 (by rw [p.1, l1, l2]) q).trans (by rw [l1, l2])) (fun j lj q => ans0 j (by rw [p.1, ← l1, ← l2]; exact lj) q) (fun i h1 h2 s' q => turnB' hD h sb p r r2 i h1 h2 s' q) (fun i s' q => ⟨rfl, q⟩) ⟨H, I, Ext.rfl'⟩
/-- instances with an own ==: what it answers; of the same one True -/
def BIns (C : Addr) (R : Addr → Addr → Bool → Hp → Prop) : Eqb := fun x y b H => ∃ a c dx dy fs gs, x = .ref a ∧ y = .ref c ∧ H a = some (.ins C dx fs) ∧ H c = some (.ins C dy gs) ∧ R a c b H
theorem monB_ins {C : Addr} {R : Addr → Addr → Bool → Hp → Prop} (hR : ∀ a c b H H', Ext H H' → R a c b H → R a c b H') : MonB (BIns C R) := fun x y b H H' e d => by
  obtain ⟨a, c, dx, dy, fs, gs, hx, hy, h1, h2, r⟩ := d
  exact ⟨a, c, dx, dy, fs, gs, hx, hy, e _ _ h1, e _ _ h2, hR a c b H H' e r⟩
def spEqB (R : Addr → Addr → Bool → Hp → Prop) : Sp := fun vs H Q _ => ∃ a c b, vs = [.ref a, .ref c] ∧ R a c b H ∧ ∀ H', Ext H H' → Q (.bl b) H'
theorem rcB_ins {CX : CXT} {C f : Addr} {fd : FuncData} {ps : List Str} {R : Addr → Addr → Bool → Hp → Prop} {E : XK} (F : FnOk X.prog X.w X.K X.mg X.base CX n f fd ps (spEqB R))
    (hs : PySem.W.findIn X.K (.ref C) "__eq__" = some (some (.ref f))) (hf : PySem.W.isFn X.K (.ref f) = true) (hb : Binds X.K fd ps []) (hx : Passes CX X E) : RcB X n (BIns C R) := by
  intro A pins s σ H x y b u v sb I rx ry d
  obtain ⟨a, c, dx, dy, fs, gs, rfl, rfl, ha, hb', hr⟩ := d
  cases rx
  cases ry
  obtain ⟨mA, J, _⟩ := ins_get I.hok ha
  obtain ⟨mB, J', _⟩ := ins_get I.hok hb'
  obtain ⟨od, J, _⟩ := J.look
  obtain ⟨od', J', _⟩ := J'.look
  obtain ⟨m, hF⟩ := I.fr
  refine PySem.W.cmp_K (op := .Eq) (tb := .ref C) sb.room.units0 hF I.ok.mod.kin J J'.type (by simp [PySem.W.notFirst]) hs hf ?_
  have hsp : spEqB R [.ref a, .ref c] H (fun v H' => v = .bl b ∧ Ext H H') E := ⟨a, c, b, rfl, hr, fun H' e => ⟨rfl, e⟩⟩
  have e0 : Env0 X.prog X.w X.K X.mg X.base A X.stack s H := by
    have e := I.env0
    exact ⟨by rw [sb.fr]; exact e.frames, e.mod, e.bs, e.bsz, e.funs, e.frf, e.hok, e.bare⟩
  have hl := F.len _ _ _ _ hsp
  have r2 : Vals [V.ref a, V.ref c] [Value.ref a, Value.ref c] := .cons rfl (.cons rfl .nil)
  refine wpAny_call (codeAny_mono (F.run A X.stack s H ⟨[.ref a, .ref c], []⟩ [.ref a, .ref c] [.ref a, .ref c] _ E sb.room e0 (by
    have := hb s [.ref a, .ref c] I.kIn (by simpa using hl)
    simpa using this) r2 hsp) fun r s' hq => ?_)
  cases r with
  | error e => exact hx pins σ H s e s' I hq
  | ok fl =>
    cases fl with
    | ret w =>
      obtain ⟨z, H', I', rz, ez, ex⟩ := I.after hq
      subst ez
      cases rz
      exact ⟨rfl, H', I', ex⟩
    | next => exact False.elim hq
    | brk => exact False.elim hq
    | cont => exact False.elim hq
/-- from a rich comparison of references to == inside a list or tuple: the same object is equal to itself -/
theorem RcB.eqB (h : RcB X n D) (hr : ∀ x y b H, D x y b H → ∃ a c, x = .ref a ∧ y = .ref c) (hs : ∀ {pins : List (Addr × Obj)} {σ : St} {s : Shared} (a : Addr) (b : Bool) (H : Hp), Inv X pins σ H s → D (.ref a) (.ref a) b H → b = true) : EqB X n D := by
  intro A pins s σ H x y b u v sb I rx ry d
  obtain ⟨a, c, rfl, rfl⟩ := hr _ _ _ _ d
  cases rx
  cases ry
  by_cases hab : a = c
  · subst hab
    rw [hs _ _ _ I d]
    exact SeqAt.EqAt.same (A := A) (s := s) (.ref a) X.prog X.w X.xe _ ⟨rfl, H, I, Ext.rfl'⟩
  · refine GQ.eqBool_refG hab (wpAny_mono (h A pins s σ H (.ref a) (.ref c) b _ _ sb I rfl rfl d) (fun r s' q => ?_) fun _ _ x => x)
    obtain ⟨hr', q⟩ := q
    exact ⟨b, hr', rfl, q⟩
/-- x == y, x != y as expressions -/
def rEqB (D : Eqb) : R2 := fun x y H Q => ∃ b, D x y b H ∧ ∀ H', Ext H H' → Q (.bl b) H'
def rNeB (D : Eqb) : R2 := fun x y H Q => ∃ b, D x y b H ∧ ∀ H', Ext H H' → Q (.bl (!b)) H'
theorem op_eqB (h : RcB X n D) (hr : Room n X.A) : OpR X (compareOp .Eq) (rEqB D) := by
  intro pins s σ H x y v u Q I rx ry hq
  obtain ⟨b, d, q⟩ := hq
  show wpAny (model X.prog X.w) X.A (richCompare .Eq v u) (EP X pins σ Q) X.xe s
  refine wpAny_mono (h X.A pins s σ H x y b v u ⟨hr, rfl⟩ I rx ry d) (fun r s' z => ?_) fun _ _ x => x
  obtain ⟨hr', H', I', e⟩ := z
  subst hr'
  exact ⟨.bl b, H', I', rfl, q H' e⟩
theorem op_neB (h : RnB X n D) (hr : Room n X.A) : OpR X (compareOp .NotEq) (rNeB D) := by
  intro pins s σ H x y v u Q I rx ry hq
  obtain ⟨b, d, q⟩ := hq
  show wpAny (model X.prog X.w) X.A (richCompare .NotEq v u) (EP X pins σ Q) X.xe s
  refine wpAny_mono (h X.A pins s σ H x y b v u ⟨hr, rfl⟩ I rx ry d) (fun r s' z => ?_) fun _ _ x => x
  obtain ⟨hr', H', I', e⟩ := z
  subst hr'
  exact ⟨.bl (!b), H', I', rfl, q H' e⟩
end
end L2
namespace L2
namespace Tr
mutual
def noD : Tr → Bool
  | .dct => false
  | .tup ts => noDs ts
  | .lst ts => noDs ts
  | _ => true
def noDs : List Tr → Bool
  | [] => true
  | t :: ts => noD t && noDs ts
end
mutual
theorem eq_tell : ∀ (t u : Tr), noD t = true → noD u = true → ∃ b, eq t u = some b
  | .tup xs, .tup ys, h, g => by
    obtain ⟨b, e⟩ := eqs_tell xs ys (by simpa [noD] using h) (by simpa [noD] using g)
    exact ⟨b, by simpa [eq] using e⟩
  | .lst xs, .lst ys, h, g => by
    obtain ⟨b, e⟩ := eqs_tell xs ys (by simpa [noD] using h) (by simpa [noD] using g)
    by_cases l : xs.length = ys.length
    · exact ⟨b, by simp only [eq, if_pos l]; exact e⟩
    · exact ⟨false, by simp only [eq, if_neg l]⟩
  | .dct, _, h, _ => by simp [noD] at h
  | _, .dct, _, g => by simp [noD] at g
  | .non, .non, _, _ => ⟨_, rfl⟩
  | .non, .bl _, _, _ => ⟨_, rfl⟩
  | .non, .int _, _, _ => ⟨_, rfl⟩
  | .non, .str _, _, _ => ⟨_, rfl⟩
  | .non, .tup _, _, _ => ⟨_, rfl⟩
  | .non, .lst _, _, _ => ⟨_, rfl⟩
  | .bl _, .non, _, _ => ⟨_, rfl⟩
  | .bl _, .bl _, _, _ => ⟨_, rfl⟩
  | .bl _, .int _, _, _ => ⟨_, rfl⟩
  | .bl _, .str _, _, _ => ⟨_, rfl⟩
  | .bl _, .tup _, _, _ => ⟨_, rfl⟩
  | .bl _, .lst _, _, _ => ⟨_, rfl⟩
  | .int _, .non, _, _ => ⟨_, rfl⟩
  | .int _, .bl _, _, _ => ⟨_, rfl⟩
  | .int _, .int _, _, _ => ⟨_, rfl⟩
  | .int _, .str _, _, _ => ⟨_, rfl⟩
  | .int _, .tup _, _, _ => ⟨_, rfl⟩
  | .int _, .lst _, _, _ => ⟨_, rfl⟩
  | .str _, .non, _, _ => ⟨_, rfl⟩
  | .str _, .bl _, _, _ => ⟨_, rfl⟩
  | .str _, .int _, _, _ => ⟨_, rfl⟩
  | .str _, .str _, _, _ => ⟨_, rfl⟩
  | .str _, .tup _, _, _ => ⟨_, rfl⟩
  | .str _, .lst _, _, _ => ⟨_, rfl⟩
  | .tup _, .non, _, _ => ⟨_, rfl⟩
  | .tup _, .bl _, _, _ => ⟨_, rfl⟩
  | .tup _, .int _, _, _ => ⟨_, rfl⟩
  | .tup _, .str _, _, _ => ⟨_, rfl⟩
  | .tup _, .lst _, _, _ => ⟨_, rfl⟩
  | .lst _, .non, _, _ => ⟨_, rfl⟩
  | .lst _, .bl _, _, _ => ⟨_, rfl⟩
  | .lst _, .int _, _, _ => ⟨_, rfl⟩
  | .lst _, .str _, _, _ => ⟨_, rfl⟩
  | .lst _, .tup _, _, _ => ⟨_, rfl⟩
theorem eqs_tell : ∀ (ts us : List Tr), noDs ts = true → noDs us = true → ∃ b, eqs ts us = some b
  | [], [], _, _ => ⟨_, rfl⟩
  | [], _ :: _, _, _ => ⟨_, rfl⟩
  | _ :: _, [], _, _ => ⟨_, rfl⟩
  | t :: ts, u :: us, h, g => by
    simp only [noDs, Bool.and_eq_true] at h g
    obtain ⟨b, e⟩ := eq_tell t u h.1 g.1
    obtain ⟨c, f⟩ := eqs_tell ts us h.2 g.2
    exact ⟨b && c, by simp only [eqs, e, f]⟩
end
/-- the answer -/
def same (t u : Tr) : Bool := (eq t u).getD false
theorem eq_same {t u : Tr} (h : noD t = true) (g : noD u = true) : eq t u = some (same t u) := by
  obtain ⟨b, e⟩ := eq_tell t u h g
  unfold same
  rw [e]
  rfl
theorem same_self {t : Tr} (h : noD t = true) : same t t = true := eq_self t _ (eq_same h h)
end Tr
end L2
namespace L2
namespace Tr
mutual
/-- tuples and scalars alone -/
def noL : Tr → Bool
  | .dct => false
  | .lst _ => false
  | .tup ts => noLs ts
  | _ => true
def noLs : List Tr → Bool
  | [] => true
  | t :: ts => noL t && noLs ts
end
mutual
theorem noD_of : ∀ {t : Tr}, noL t = true → noD t = true
  | .dct, h => by simp [noL] at h
  | .lst _, h => by simp [noL] at h
  | .tup ts, h => by
    have := noDs_of (ts := ts) (by simpa [noL] using h)
    simpa [noD] using this
  | .non, _ => rfl
  | .bl _, _ => rfl
  | .int _, _ => rfl
  | .str _, _ => rfl
theorem noDs_of : ∀ {ts : List Tr}, noLs ts = true → noDs ts = true
  | [], _ => rfl
  | t :: ts, h => by
    simp only [noLs, Bool.and_eq_true] at h
    simp only [noDs, Bool.and_eq_true]
    exact ⟨noD_of h.1, noDs_of h.2⟩
end
end Tr
mutual
/-- such a thing stands whatever becomes of lists and tables -/
theorem At.fx {K : PySem.W.Frag} {H H' : Hp} (e : ∀ b o, H b = some o → (∀ ps, o ≠ .tbl ps) → (∀ xs, o ≠ .lst xs) → H' b = some o) : ∀ {x : V} {t : Tr}, Tr.noL t = true → At K H x t → At K H' x t
  | _, _, _, .non => .non
  | _, _, _, .bl => .bl
  | _, _, _, .int => .int
  | _, _, _, .str => .str
  | _, _, h, .dct _ => by simp [Tr.noL] at h
  | _, _, h, .lst _ _ => by simp [Tr.noL] at h
  | _, _, h, .tup hq hs => .tup (by
      rcases hq with (q | ⟨o, q⟩) | q
      · exact .inl (.inl (e _ _ q (fun _ z => by cases z) (fun _ z => by cases z)))
      · exact .inl (.inr ⟨o, e _ _ q (fun _ z => by cases z) (fun _ z => by cases z)⟩)
      · exact .inr q) (Ats.fx e (by simpa [Tr.noL] using h) hs)
theorem Ats.fx {K : PySem.W.Frag} {H H' : Hp} (e : ∀ b o, H b = some o → (∀ ps, o ≠ .tbl ps) → (∀ xs, o ≠ .lst xs) → H' b = some o) : ∀ {xs : List V} {ts : List Tr}, Tr.noLs ts = true → Ats K H xs ts → Ats K H' xs ts
  | _, _, _, .nil => .nil
  | _, _, h, .cons hx hs => by
    simp only [Tr.noLs, Bool.and_eq_true] at h
    exact .cons (At.fx e h.1 hx) (Ats.fx e h.2 hs)
end
end L2

set_option maxRecDepth 100000
set_option maxHeartbeats 4000000
namespace K09
open PySem PySem.Spec PyProof.Rows L2 He VH RZ
/-! Writers, Fills, Phases, Rollouts compared: what == answers -/
/-- a Writer and its steps' trees -/
def WrX (K : PySem.W.Frag) (H : Hp) (x : V) (d : Str × List Tr) : Prop := ∃ a nb, x = .ref a ∧ WrS K H a d.1 d.2 nb ∧ (Tr.tup d.2).dep ≤ 60 ∧ Tr.noL (.tup d.2) = true
def PhX (K : PySem.W.Frag) (H : Hp) (x : V) (d : Ph) : Prop := ∃ a, x = .ref a ∧ PhS K H a d
def FlX (K : PySem.W.Frag) (H : Hp) (x : V) (d : Fl × Tr) : Prop := ∃ a p, x = .ref a ∧ FlAt K H a p d.1 ∧ At K H (.ref p) d.2 ∧ d.2.dep ≤ 60 ∧ d.2.noL = true
def sameW (d e : Str × List Tr) : Bool := decide (d.1 = e.1) && Tr.same (.tup d.2) (.tup e.2)
def sameP (d e : Ph) : Bool := decide (d = e)
def sameF (d e : Fl × Tr) : Bool := Tr.same d.2 e.2 && (decide (d.1.b = e.1.b) && (decide (d.1.z = e.1.z) && (decide (d.1.f1 = e.1.f1) && (decide (d.1.f2 = e.1.f2) && (decide (d.1.f3 = e.1.f3) && decide (d.1.f4 = e.1.f4))))))
def sameY (d e : Int × Int) : Bool := decide (d = e)
def sameL {α : Type} (f : α → α → Bool) (xs ys : List α) : Bool := ansB (List.zipWith f xs ys) xs.length ys.length
/-- all parts of a Rollout -/
structure Rd where
  ws : List (Str × List Tr)
  fl : Fl × Tr
  ds : List Ph
  wk : Int
  hd : Int
  rs : List (Int × Int)
def Rd.ro (d : Rd) : Ro := ⟨d.ws.map (·.1), d.ds, d.wk, d.hd, d.rs⟩
def sameR (d e : Rd) : Bool := sameL sameW d.ws e.ws && (sameF d.fl e.fl && (sameL sameP d.ds e.ds && (decide (d.wk = e.wk) && (decide (d.hd = e.hd) && sameL sameY d.rs e.rs))))
/-- a Rollout of these parts -/
structure RoX (K : PySem.W.Frag) (H : Hp) (a : Addr) (ws ps bs : List V) (fa : Addr) (d : Rd) : Prop where
  r : RoAt K H a ws ps bs fa d.ro
  w : Each (WrX K) H ws d.ws
  f : FlX K H (.ref fa) d.fl
  p : Each (PhX K) H ps d.ds
  b : Each (WyAt K) H bs d.rs
theorem WrX.same {K : PySem.W.Frag} {H H' : Hp} {x : V} {d : Str × List Tr} (s : Same H H') (h : WrX K H x d) : WrX K H' x d := by
  obtain ⟨a, nb, e, ⟨xs, ⟨dx, t, h1, h2⟩, h3⟩, h4⟩ := h
  exact ⟨a, nb, e, ⟨xs, ⟨dx, t, s _ _ h1, s _ _ h2⟩, h3.same s⟩, h4⟩
theorem PhX.same {K : PySem.W.Frag} {H H' : Hp} {x : V} {d : Ph} (s : Same H H') (h : PhX K H x d) : PhX K H' x d := by
  obtain ⟨a, e, h1⟩ := h
  exact ⟨a, e, h1.same s⟩
theorem FlX.same {K : PySem.W.Frag} {H H' : Hp} {x : V} {d : Fl × Tr} (s : Same H H') (h : FlX K H x d) : FlX K H' x d := by
  obtain ⟨a, p, e, ⟨dx, h1⟩, h2, h3⟩ := h
  exact ⟨a, p, e, ⟨dx, s _ _ h1⟩, h2.same s, h3⟩
theorem RoX.same {K : PySem.W.Frag} {H H' : Hp} {a : Addr} {ws ps bs : List V} {fa : Addr} {d : Rd} (h : RoX K H a ws ps bs fa d) (s : Same H H') : RoX K H' a ws ps bs fa d :=
  ⟨h.r.same s, h.w.same fun _ _ h => h.same s, h.f.same s, h.p.same fun _ _ h => h.same s, h.b.same fun _ _ h => h.same s⟩
def WrR (K : PySem.W.Frag) (a c : Addr) (b : Bool) (H : Hp) : Prop := ∃ d e, WrX K H (.ref a) d ∧ WrX K H (.ref c) e ∧ b = sameW d e
def PhR (K : PySem.W.Frag) (a c : Addr) (b : Bool) (H : Hp) : Prop := ∃ d e, PhX K H (.ref a) d ∧ PhX K H (.ref c) e ∧ b = sameP d e
def FlR (K : PySem.W.Frag) (a c : Addr) (b : Bool) (H : Hp) : Prop := ∃ d e, FlX K H (.ref a) d ∧ FlX K H (.ref c) e ∧ b = sameF d e
def RoR (K : PySem.W.Frag) (a c : Addr) (b : Bool) (H : Hp) : Prop := ∃ ws ps bs fa d ws' ps' bs' fa' e, RoX K H a ws ps bs fa d ∧ RoX K H c ws' ps' bs' fa' e ∧ b = sameR d e
theorem WrR.ext {K : PySem.W.Frag} (a c : Addr) (b : Bool) (H H' : Hp) (s : Ext H H') (h : WrR K a c b H) : WrR K a c b H' := by
  obtain ⟨d, e, h1, h2, eb⟩ := h
  exact ⟨d, e, h1.same s, h2.same s, eb⟩
theorem PhR.ext {K : PySem.W.Frag} (a c : Addr) (b : Bool) (H H' : Hp) (s : Ext H H') (h : PhR K a c b H) : PhR K a c b H' := by
  obtain ⟨d, e, h1, h2, eb⟩ := h
  exact ⟨d, e, h1.same s, h2.same s, eb⟩
theorem FlR.ext {K : PySem.W.Frag} (a c : Addr) (b : Bool) (H H' : Hp) (s : Ext H H') (h : FlR K a c b H) : FlR K a c b H' := by
  obtain ⟨d, e, h1, h2, eb⟩ := h
  exact ⟨d, e, h1.same s, h2.same s, eb⟩
theorem RoR.ext {K : PySem.W.Frag} (a c : Addr) (b : Bool) (H H' : Hp) (s : Ext H H') (h : RoR K a c b H) : RoR K a c b H' := by
  obtain ⟨ws, ps, bs, fa, d, ws', ps', bs', fa', e, h1, h2, eb⟩ := h
  exact ⟨ws, ps, bs, fa, d, ws', ps', bs', fa', e, h1.same s, h2.same s, eb⟩
section
variable {P : Program} {w : World} {K : PySem.W.Frag} {mg : Str → Option Value} {base : Heap} {f : Addr} {fd fdF fdW fdP : FuncData}
theorem ok_wrB (F : FnM K "__eq__" "Writer.__eq__" 37 1 f fd) (T : Txt K mg w) : FnOk P w K mg base CX0 1 f fd ["self", "other"] (spEqB (WrR K)) := (ok_wrE F T).imp fun vs H Q E h => by
  obtain ⟨a, c, b, rfl, ⟨d, e, ⟨a', nb, ea, hd, dp, nd⟩, ⟨c', nb', ec, he, _, ne⟩, rfl⟩, q⟩ := h
  cases ea
  cases ec
  exact ⟨a, d.1, d.2, nb, _, rfl, hd, dp, .inl ⟨c, e.1, e.2, nb', _, rfl, he, Tr.eq_same (Tr.noD_of nd) (Tr.noD_of ne), q _ fun _ _ h => h⟩⟩
theorem ok_phB (F : FnM K "__eq__" "Phase.__eq__" 40 1 f fd) (T : Txt K mg w) : FnOk P w K mg base CX0 1 f fd ["self", "other"] (spEqB (PhR K)) := (ok_phE F T).imp fun vs H Q E h => by
  obtain ⟨a, c, b, rfl, ⟨d, e, ⟨a', ea, hd⟩, ⟨c', ec, he⟩, rfl⟩, q⟩ := h
  cases ea
  cases ec
  exact ⟨a, d, _, rfl, hd, .inl ⟨c, e, rfl, he, q _ fun _ _ h => h⟩⟩
end
section
variable {X : Cx} {fd : FuncData}
theorem eqB_wr (T : Txt X.K X.mg X.w) (F : FnWrE X.K fd) : EqB X 1 (BIns (ga X.K "Writer") (WrR X.K)) :=
  (rcB_ins (ok_wrB F T) T.h_Writer_eq.at_ T.h_Writer_eq.fn (bWrE F) pass0).eqB (fun _ _ _ _ d => let ⟨a, c, _, _, _, _, hx, hy, _⟩ := d; ⟨a, c, hx, hy⟩) fun a b H I d => by
    obtain ⟨_, _, _, _, _, _, ea, ec, _, _, d, e, ⟨a', nb, e1, ⟨xs, ⟨dx, t, h1, h2⟩, h3⟩, _, nd⟩, ⟨c', nb', e2, ⟨ys, ⟨dy, u, g1, g2⟩, g3⟩, _⟩, rfl⟩ := d
    cases ea
    cases ec
    cases e1
    cases e2
    rw [h1] at g1
    obtain ⟨z, ts⟩ := d
    obtain ⟨z', ts'⟩ := e
    simp only at h1 g1 h3 g3 nd
    cases g1
    rw [h2] at g2
    cases g2
    cases Ats.inj I h3 g3
    unfold sameW
    rw [Tr.same_self (Tr.noD_of nd)]
    simp
theorem phS_inj {pins : List (Addr × Obj)} {σ : L2.St} {s : Shared} {H : Hp} {a : Addr} {d e : Ph} (I : Inv X pins σ H s) (h : PhS X.K H a d) (g : PhS X.K H a e) : d = e := by
  obtain ⟨z, ws, b, ps, qs⟩ := d
  obtain ⟨z', ws', b', ps', qs'⟩ := e
  obtain ⟨dx, t1, t2, t3, h, a1, a2, a3⟩ := h
  obtain ⟨dy, u1, u2, u3, g, b1, b2, b3⟩ := g
  simp only at h g a1 a2 a3 b1 b2 b3
  rw [h] at g
  cases g
  have inj : ∀ {ws ws' : List Str}, ws.map V.str = ws'.map V.str → ws = ws' := fun {ws ws'} e => by
    have : Function.Injective V.str := fun x y q => by cases q; rfl
    exact List.map_inj_right (fun x y q => this q) |>.mp e
  cases inj (I.tuple_inj a1 b1)
  cases inj (I.tuple_inj a2 b2)
  cases inj (I.tuple_inj a3 b3)
  rfl
theorem eqB_ph (T : Txt X.K X.mg X.w) (F : FnPhE X.K fd) : EqB X 1 (BIns (ga X.K "Phase") (PhR X.K)) :=
  (rcB_ins (ok_phB F T) T.h_Phase_eq.at_ T.h_Phase_eq.fn (bPhE F) pass0).eqB (fun _ _ _ _ d => let ⟨a, c, _, _, _, _, hx, hy, _⟩ := d; ⟨a, c, hx, hy⟩) fun a b H I d => by
    obtain ⟨_, _, _, _, _, _, ea, ec, _, _, d, e, ⟨a', e1, h⟩, ⟨c', e2, g⟩, rfl⟩ := d
    cases ea
    cases ec
    cases e1
    cases e2
    cases phS_inj I h g
    unfold sameP
    simp
end
theorem prs_of {α : Type} {p : Hp → V → α → Prop} {D : Eqb} {f : α → α → Bool} {H : Hp} {xs ys : List V} {zs us : List α} (h : Each p H xs zs) (g : Each p H ys us) (k : ∀ x y z u, p H x z → p H y u → D x y (f z u) H) : PrsB D xs ys (List.zipWith f zs us) H := by
  refine ⟨by rw [List.length_zipWith, h.1, g.1], fun i x y b e1 e2 e3 => ?_⟩
  obtain ⟨z, ez, hz⟩ := h.2 i x e1
  obtain ⟨u, eu, hu⟩ := g.2 i y e2
  rw [List.getElem?_zipWith, ez, eu] at e3
  cases e3
  exact k x y z u hz hu
section
variable {K : PySem.W.Frag} {H : Hp} {xs ys : List V} {t u : Addr}
theorem bt_wr {ds es : List (Str × List Tr)} (h1 : SqT K H t xs) (h2 : SqT K H u ys) (h : Each (WrX K) H xs ds) (g : Each (WrX K) H ys es) : BTup K (BIns (ga K "Writer") (WrR K)) (.ref t) (.ref u) (sameL sameW ds es) H :=
  ⟨t, u, xs, ys, _, rfl, rfl, h1, h2, prs_of h g fun x y z u hz hu => by
    obtain ⟨a, nb, rfl, ⟨vs, ⟨dx, tt, k1, k2⟩, k3⟩, r1⟩ := id hz
    obtain ⟨c, nb', rfl, ⟨vs', ⟨dy, tt', l1, l2⟩, l3⟩, r2⟩ := id hu
    exact ⟨a, c, dx, dy, _, _, rfl, rfl, k1, l1, z, u, hz, hu, rfl⟩, by unfold sameL; rw [h.1, g.1]⟩
theorem bt_ph {ds es : List Ph} (h1 : SqT K H t xs) (h2 : SqT K H u ys) (h : Each (PhX K) H xs ds) (g : Each (PhX K) H ys es) : BTup K (BIns (ga K "Phase") (PhR K)) (.ref t) (.ref u) (sameL sameP ds es) H :=
  ⟨t, u, xs, ys, _, rfl, rfl, h1, h2, prs_of h g fun x y z u hz hu => by
    obtain ⟨a, rfl, ⟨dx, _, _, _, k1, _⟩⟩ := id hz
    obtain ⟨c, rfl, ⟨dy, _, _, _, l1, _⟩⟩ := id hu
    exact ⟨a, c, dx, dy, _, _, rfl, rfl, k1, l1, z, u, hz, hu, rfl⟩, by unfold sameL; rw [h.1, g.1]⟩
theorem bt_wy {ds es : List (Int × Int)} (h1 : SqT K H t xs) (h2 : SqT K H u ys) (h : Each (WyAt K) H xs ds) (g : Each (WyAt K) H ys es) : BTup K (BTr K) (.ref t) (.ref u) (sameL sameY ds es) H :=
  ⟨t, u, xs, ys, _, rfl, rfl, h1, h2, prs_of h g fun x y z u hz hu => ⟨wyT z, wyT u, hz.at, hu.at, wy_eq z u, Nat.le_of_ble_eq_true rfl⟩, by unfold sameL; rw [h.1, g.1]; rfl⟩
end
/-! Fill.__eq__, Rollout.__eq__ -/
abbrev sFlE : Stmt := inClass (top 39) 1
abbrev sRoE : Stmt := inClass (top 45) 2
abbrev FnFlE (K : PySem.W.Frag) (fd : FuncData) : Prop := FnM K "__eq__" "Fill.__eq__" 39 1 (ma K (ga K "Fill") "__eq__") fd
abbrev FnRoE (K : PySem.W.Frag) (fd : FuncData) : Prop := FnM K "__eq__" "Rollout.__eq__" 45 2 (ma K (ga K "Rollout") "__eq__") fd
theorem bFlE {K : PySem.W.Frag} {fd : FuncData} (F : FnFlE K fd) : Binds K fd ["self", "other"] [] := FunD.bindsN F fun _ _ _ _ _ _ us hl => match us, hl with | [_, _], _ => rfl
theorem bRoE {K : PySem.W.Frag} {fd : FuncData} (F : FnRoE K fd) : Binds K fd ["self", "other"] [] := FunD.bindsN F fun _ _ _ _ _ _ us hl => match us, hl with | [_, _], _ => rfl
section
variable {P : Program} {w : World} {K : PySem.W.Frag} {mg : Str → Option Value} {base : Heap} {f : Addr} {fd fdF fdW fdP : FuncData}
theorem scFlE : FnScope ["self", "other"] ["self", "other"] (defScope sFlE) := ⟨rfl, rfl, rfl, by decide +kernel, rfl, by decide +kernel, by decide +kernel⟩
theorem ok_flE (F : FnM K "__eq__" "Fill.__eq__" 39 1 f fd) (T : Txt K mg w) : FnOk P w K mg base CX0 2 f fd ["self", "other"] (spEqB (FlR K)) := by
  refine F.ok scFlE (fun vs H Q E h => ?_) (fun cdv A outer s H vs Q E hr h => ?_)
  · obtain ⟨_, _, _, rfl, _⟩ := h
    rfl
  refine ⟨_, PSs.nox (pss_one (ps_ret (pe_and (pe_callB call_isi (by rfl) T.g_isinstance boot_isinstance (pa_cons (pv 1) (pa_cons (pe_glob (v := .ref (ga K "Fill")) (by rfl) T.m_Fill rfl) pa_nil)))
    (pe_and (pe_cmpR (op_eqT hr.units) (pe_fld (pv 0) (by rfl)) (pe_fld (pv 1) (by rfl)) (nomark _))
    (pe_and (pe_cmpR op_eq (pe_fld (pv 0) (by rfl)) (pe_fld (pv 1) (by rfl)) (nomark _))
    (pe_and (pe_cmpR op_eq (pe_fld (pv 0) (by rfl)) (pe_fld (pv 1) (by rfl)) (nomark _))
    (pe_and (pe_cmpR op_eq (pe_fld (pv 0) (by rfl)) (pe_fld (pv 1) (by rfl)) (nomark _))
    (pe_and (pe_cmpR op_eq (pe_fld (pv 0) (by rfl)) (pe_fld (pv 1) (by rfl)) (nomark _))
    (pe_and (pe_cmpR op_eq (pe_fld (pv 0) (by rfl)) (pe_fld (pv 1) (by rfl)) (nomark _))
    (pe_one (pe_cmpR op_eq (pe_fld (pv 0) (by rfl)) (pe_fld (pv 1) (by rfl)) (nomark _)))))))))))), ?_⟩
  obtain ⟨a, c, b, rfl, ⟨d, e, ⟨a', p, ea, ⟨dx, ha⟩, hp, dp, nd⟩, ⟨c', p', ec, ⟨dy, hc⟩, hp', _, ne⟩, rfl⟩, q⟩ := h
  cases ea
  cases ec
  have q := q H fun _ _ h => h
  unfold sameF at q
  have ty : TyX K H (.ref c) (.ref (ga K "Fill")) := .base (.ins hc T.c_Fill T.o_Fill.cls T.dc1 T.dc2 T.o_Fill.mro)
  obtain ⟨d, t⟩ := d
  obtain ⟨e, t'⟩ := e
  simp only at ha hc hp hp' dp nd ne q
  refine ⟨_, rfl, _, _, _, _, true, rfl, .own (ga K "Fill"), ty, T.o_Fill.kk, true, rfl, iteT ?_⟩
  refine ⟨_, rfl, a, _, dx, _, _, rfl, ha, T.c_Fill, T.n_Fill_statement, rfl, _, rfl, c, _, dy, _, _, rfl, hc, T.c_Fill, T.n_Fill_statement, rfl, t, t', _, hp, hp', Tr.eq_same (Tr.noD_of nd) (Tr.noD_of ne), dp, _, rfl, ?_⟩
  cases e0 : Tr.same t t' with
  | false => rw [e0] at q; exact iteF q
  | true =>
  rw [e0, Bool.true_and] at q
  refine iteT ⟨_, rfl, a, _, dx, _, _, rfl, ha, T.c_Fill, T.n_Fill_batch, rfl, _, rfl, c, _, dy, _, _, rfl, hc, T.c_Fill, T.n_Fill_batch, rfl, rfl, _, rfl, ?_⟩
  rw [show decide (V.int d.b = V.int e.b) = decide (d.b = e.b) by simp]
  cases e1 : decide (d.b = e.b) with
  | false => rw [e1] at q; exact iteF q
  | true =>
  rw [e1, Bool.true_and] at q
  refine iteT ⟨_, rfl, a, _, dx, _, _, rfl, ha, T.c_Fill, T.n_Fill_save, rfl, _, rfl, c, _, dy, _, _, rfl, hc, T.c_Fill, T.n_Fill_save, rfl, rfl, _, rfl, ?_⟩
  rw [show decide (V.str d.z = V.str e.z) = decide (d.z = e.z) by simp]
  cases e2 : decide (d.z = e.z) with
  | false => rw [e2] at q; exact iteF q
  | true =>
  rw [e2, Bool.true_and] at q
  refine iteT ⟨_, rfl, a, _, dx, _, _, rfl, ha, T.c_Fill, T.n_Fill_lock, rfl, _, rfl, c, _, dy, _, _, rfl, hc, T.c_Fill, T.n_Fill_lock, rfl, rfl, _, rfl, ?_⟩
  rw [show decide (V.bl d.f1 = V.bl e.f1) = decide (d.f1 = e.f1) by simp]
  cases e3 : decide (d.f1 = e.f1) with
  | false => rw [e3] at q; exact iteF q
  | true =>
  rw [e3, Bool.true_and] at q
  refine iteT ⟨_, rfl, a, _, dx, _, _, rfl, ha, T.c_Fill, T.n_Fill_only_missing, rfl, _, rfl, c, _, dy, _, _, rfl, hc, T.c_Fill, T.n_Fill_only_missing, rfl, rfl, _, rfl, ?_⟩
  rw [show decide (V.bl d.f2 = V.bl e.f2) = decide (d.f2 = e.f2) by simp]
  cases e4 : decide (d.f2 = e.f2) with
  | false => rw [e4] at q; exact iteF q
  | true =>
  rw [e4, Bool.true_and] at q
  refine iteT ⟨_, rfl, a, _, dx, _, _, rfl, ha, T.c_Fill, T.n_Fill_falls, rfl, _, rfl, c, _, dy, _, _, rfl, hc, T.c_Fill, T.n_Fill_falls, rfl, rfl, _, rfl, ?_⟩
  rw [show decide (V.bl d.f3 = V.bl e.f3) = decide (d.f3 = e.f3) by simp]
  cases e5 : decide (d.f3 = e.f3) with
  | false => rw [e5] at q; exact iteF q
  | true =>
  rw [e5, Bool.true_and] at q
  refine iteT ⟨_, rfl, a, _, dx, _, _, rfl, ha, T.c_Fill, T.n_Fill_again, rfl, _, rfl, c, _, dy, _, _, rfl, hc, T.c_Fill, T.n_Fill_again, rfl, rfl, ?_⟩
  rw [show decide (V.bl d.f4 = V.bl e.f4) = decide (d.f4 = e.f4) by simp]
  exact q
theorem scRoE : FnScope ["self", "other"] ["self", "other"] (defScope sRoE) := ⟨rfl, rfl, rfl, by decide +kernel, rfl, by decide +kernel, by decide +kernel⟩
theorem ok_roE (F : FnM K "__eq__" "Rollout.__eq__" 45 2 f fd) (T : Txt K mg w) (FF : FnFlE K fdF) (FW : FnWrE K fdW) (FP : FnPhE K fdP) : FnOk P w K mg base CX0 3 f fd ["self", "other"] (spEqB (RoR K)) := by
  have GF : FnOk P w K mg base CX0 2 (ma K (ga K "Fill") "__eq__") fdF ["self", "other"] (spEqB (FlR K)) := ok_flE FF T
  refine F.ok scRoE (fun vs H Q E h => ?_) (fun cdv A outer s H vs Q E hr h => ?_)
  · obtain ⟨_, _, _, rfl, _⟩ := h
    rfl
  refine ⟨_, PSs.nox (pss_one (ps_ret (pe_and (pe_callB call_isi (by rfl) T.g_isinstance boot_isinstance (pa_cons (pv 1) (pa_cons (pe_glob (v := .ref (ga K "Rollout")) (by rfl) T.m_Rollout rfl) pa_nil)))
    (pe_and (pe_cmpR (op_eqB (rcB_tup (monB_ins WrR.ext) (eqB_wr T FW)) (hr.mono (by decide))) (pe_fld (pv 0) (by rfl)) (pe_fld (pv 1) (by rfl)) (nomark _))
    (pe_and (pe_cmpR (op_eqB (rcB_ins GF T.h_Fill_eq.at_ T.h_Fill_eq.fn (bFlE FF) pass0) (hr.mono (by decide))) (pe_fld (pv 0) (by rfl)) (pe_fld (pv 1) (by rfl)) (nomark _))
    (pe_and (pe_cmpR (op_eqB (rcB_tup (monB_ins PhR.ext) (eqB_ph T FP)) (hr.mono (by decide))) (pe_fld (pv 0) (by rfl)) (pe_fld (pv 1) (by rfl)) (nomark _))
    (pe_and (pe_cmpR op_eq (pe_fld (pv 0) (by rfl)) (pe_fld (pv 1) (by rfl)) (nomark _))
    (pe_and (pe_cmpR op_eq (pe_fld (pv 0) (by rfl)) (pe_fld (pv 1) (by rfl)) (nomark _))
    (pe_one (pe_cmpR (op_eqB (rcB_tup monB_tr eqB_tr) (hr.mono (by decide))) (pe_fld (pv 0) (by rfl)) (pe_fld (pv 1) (by rfl)) (nomark _))))))))))), ?_⟩
  obtain ⟨a, c, b, rfl, ⟨ws, ps, bs, fa, d, ws', ps', bs', fa', e, ra, rc, rfl⟩, q⟩ := h
  have ty := RoAt.ty T rc.r
  obtain ⟨dx, t1, t2, t3, ha, a1, a2, a3⟩ := id ra.r
  obtain ⟨dy, u1, u2, u3, hc, b1, b2, b3⟩ := id rc.r
  unfold sameR at q
  refine ⟨_, rfl, _, _, _, _, true, rfl, .own (ga K "Rollout"), ty, T.o_Rollout.kk, true, rfl, iteT ?_⟩
  refine ⟨_, rfl, a, _, dx, _, _, rfl, ha, T.c_Rollout, T.n_Rollout_writers, rfl, _, rfl, c, _, dy, _, _, rfl, hc, T.c_Rollout, T.n_Rollout_writers, rfl, _, bt_wr a1 b1 ra.w rc.w, fun G1 S1 => ⟨_, rfl, ?_⟩⟩
  cases e0 : sameL sameW d.ws e.ws with
  | false => rw [e0] at q; exact iteF (q G1 S1)
  | true =>
  rw [e0, Bool.true_and] at q
  have ra1 := ra.same S1
  have rc1 := rc.same S1
  obtain ⟨fa1, p1, ef1, ⟨dz, hf1⟩, _⟩ := id ra1.f
  obtain ⟨fa2, p2, ef2, ⟨dw, hf2⟩, _⟩ := id rc1.f
  cases ef1
  cases ef2
  refine iteT ⟨_, rfl, a, _, dx, _, _, rfl, S1 _ _ ha, T.c_Rollout, T.n_Rollout_fill, rfl, _, rfl, c, _, dy, _, _, rfl, S1 _ _ hc, T.c_Rollout, T.n_Rollout_fill, rfl, _, ⟨fa, fa', dz, dw, _, _, rfl, rfl, hf1, hf2, d.fl, e.fl, ra1.f, rc1.f, rfl⟩, fun G2 S2 => ⟨_, rfl, ?_⟩⟩
  have S12 : Same H G2 := fun b o e => S2 b o (S1 b o e)
  cases e1 : sameF d.fl e.fl with
  | false => rw [e1] at q; exact iteF (q G2 S12)
  | true =>
  rw [e1, Bool.true_and] at q
  refine iteT ⟨_, rfl, a, _, dx, _, _, rfl, S12 _ _ ha, T.c_Rollout, T.n_Rollout_phases, rfl, _, rfl, c, _, dy, _, _, rfl, S12 _ _ hc, T.c_Rollout, T.n_Rollout_phases, rfl, _, bt_ph (a2.same S12) (b2.same S12) (ra.same S12).p (rc.same S12).p, fun G3 S3 => ⟨_, rfl, ?_⟩⟩
  have S13 : Same H G3 := fun b o e => S3 b o (S12 b o e)
  cases e2 : sameL sameP d.ds e.ds with
  | false => rw [e2] at q; exact iteF (q G3 S13)
  | true =>
  rw [e2, Bool.true_and] at q
  refine iteT ⟨_, rfl, a, _, dx, _, _, rfl, S13 _ _ ha, T.c_Rollout, T.n_Rollout_workers, rfl, _, rfl, c, _, dy, _, _, rfl, S13 _ _ hc, T.c_Rollout, T.n_Rollout_workers, rfl, rfl, _, rfl, ?_⟩
  rw [show decide (V.int d.ro.wk = V.int e.ro.wk) = decide (d.wk = e.wk) by simp [Rd.ro]]
  cases e3 : decide (d.wk = e.wk) with
  | false => rw [e3] at q; exact iteF (q G3 S13)
  | true =>
  rw [e3, Bool.true_and] at q
  refine iteT ⟨_, rfl, a, _, dx, _, _, rfl, S13 _ _ ha, T.c_Rollout, T.n_Rollout_hands, rfl, _, rfl, c, _, dy, _, _, rfl, S13 _ _ hc, T.c_Rollout, T.n_Rollout_hands, rfl, rfl, _, rfl, ?_⟩
  rw [show decide (V.int d.ro.hd = V.int e.ro.hd) = decide (d.hd = e.hd) by simp [Rd.ro]]
  cases e4 : decide (d.hd = e.hd) with
  | false => rw [e4] at q; exact iteF (q G3 S13)
  | true =>
  rw [e4, Bool.true_and] at q
  refine iteT ⟨_, rfl, a, _, dx, _, _, rfl, S13 _ _ ha, T.c_Rollout, T.n_Rollout_back, rfl, _, rfl, c, _, dy, _, _, rfl, S13 _ _ hc, T.c_Rollout, T.n_Rollout_back, rfl, _, bt_wy (a3.same S13) (b3.same S13) (ra.same S13).b (rc.same S13).b, fun G4 S4 => ?_⟩
  exact q _ fun b o e => S4 b o (S13 b o e)
end
end K09

set_option maxRecDepth 100000
set_option maxHeartbeats 4000000
/-! A lambda with one parameter: its frame, and its call by what a parameter of another def holds. -/
namespace LamX
open PySem PySem.Spec PyProof.Rows L2
/-- captured names, globals and the one parameter q -/
structure Lam1 (q : Str) (sc scope : Scope) : Prop where
  kd : scope.kind = .function
  nc : scope.isCoroutine = false
  ng : scope.isGenerator = false
  cellfree : ∀ y ∈ scope.names, y.2 ≠ .cell
  only : ∀ y, scope.names.lookup y = some .local → y = q
  par : scope.names.lookup q = some .local
  up : ∀ y ∈ scope.names, y.2 = .free → sc.names.lookup y.1 = some .cell ∨ sc.names.lookup y.1 = some .free
def lam1B (q : Str) (sc scope : Scope) : Bool :=
  decide (scope.kind = .function) && (!scope.isCoroutine && (!scope.isGenerator && (decide (scope.names.lookup q = some .local) &&
    (scope.names.all fun y => !decide (y.2 = .cell) && ((!decide (y.2 = .local) || decide (y.1 = q)) && (!decide (y.2 = .free) || (decide (sc.names.lookup y.1 = some .cell) || decide (sc.names.lookup y.1 = some .free))))))))
theorem lam1_by {q : Str} {sc scope : Scope} (h : lam1B q sc scope = true) : Lam1 q sc scope := by
  simp only [lam1B, Bool.and_eq_true, Bool.or_eq_true, Bool.not_eq_true', decide_eq_true_eq, decide_eq_false_iff_not, List.all_eq_true] at h
  obtain ⟨a1, a2, a3, a4, a5⟩ := h
  refine ⟨a1, a2, a3, fun y hy => (a5 y hy).1, fun y e => ?_, a4, fun y hy e => ?_⟩
  · rcases (a5 _ (PySem.mem_of_lookup e)).2.1 with z | z
    · exact absurd rfl z
    · exact z
  · rcases (a5 y hy).2.2 with z | z
    · exact absurd e z
    · exact z
theorem Lam1.cells {q : Str} {X : Cx} {scope : Scope} (L : Lam1 q X.env.scope scope) (ok : X.Ok) (y : Str × NameKind) (hy : y ∈ scope.names) (e : y.2 = .free) : ∃ c, X.env.cells.lookup y.1 = some c :=
  (L.up y hy e).elim (fun k => ok.has _ (.inl k)) (fun k => ok.has _ (.inr k))
section
variable {X : Cx} {pins : List (Addr × Obj)} {σ : L2.St} {H HZ : Hp} {s s1 : Shared}
/-- the frame of the lambda, just entered -/
theorem lam1_start {A : Around} {outer : List Env} {E : XK} {scope : Scope} {f c' : Addr} {h₁ : Heap} {tk : Nat} {q : Str} {i : Nat} {x : V} {u : Value}
    (I : Inv X pins σ H s) (L : Lam1 q X.env.scope scope) (nd : X.N.Nodup) (hi : X.N[i]? = some q) (rx : L2.RelV x u) (e0 : Env0 X.prog X.w X.K X.mg X.base A outer s1 HZ)
    (hd : A.handled = none) (un : Un (frs X.stack) [] H HZ s.heap s1.heap) (hns : h₁.Ns s1.heap.objs.size fun y => ([(q, u)] : List (Str × Value)).reverse.lookup y)
    (kp : ∀ b o, s1.heap.get? b = some o → h₁.get? b = some o) : Inv (lamCx X A outer s1 HZ E scope f c') [] (σ.set i (some x)) HZ { s1 with heap := h₁, toks := tk } := by
  have own : ∀ {y : Str}, scope.names.lookup y = some .free → ∃ c, (cloFrom X.env.cells scope.names []).lookup y = some c := fun {y} hl =>
    mem_lookup (cloFrom_has (cells := X.env.cells) (acc := []) (show (y, NameKind.free) ∈ scope.names from PySem.mem_of_lookup hl))
  have src : ∀ {y : Str} {c : Addr}, (cloFrom X.env.cells scope.names []).lookup y = some c → X.env.cells.lookup y = some c := fun {y c} e => by
    rcases cloFrom_mem (PySem.mem_of_lookup e) with z | ⟨m, z⟩
    · cases z
    · obtain ⟨c1, z1⟩ := L.cells I.ok _ m rfl
      have z2 : X.env.cells.lookup y = some c1 := z1
      rw [z2] at z
      rw [z2, z]
      rfl
  have still : ∀ {c : Addr} {v : Option Value}, H c = none → s.heap.IsCell c v → h₁.IsCell c v := fun {c v} n z => by
    obtain ⟨o, ho, hv⟩ := z
    obtain ⟨sl, z2⟩ := un.any ho n (by simp)
    exact ⟨_, kp _ _ z2, hv⟩
  have nx : ∀ b : Addr, b ∉ (lamCx X A outer s1 HZ E scope f c').ex := fun b z => absurd (show b ∈ ([] : List Addr) from z) (by simp)
  have okL : (lamCx X A outer s1 HZ E scope f c').Ok := by
    refine ⟨e0.mod, L.kd, rfl, rfl, Nat.le_refl _, fun y z c a b => I.ok.inj y z c (src a) (src b), fun y hy => ?_, fun y c z _ => Bool.noConfusion (show false = true from z), fun _ => hd, Around.frames_deeper e0.frames,
      .inr ⟨rfl, rfl⟩, fun b z => absurd z (nx b), e0.bs, e0.bsz, fun b _ _ => nx b, fun b z => absurd z (nx b), e0.funs, e0.frf⟩
    rcases (show scope.names.lookup y = some .cell ∨ scope.names.lookup y = some .free from hy) with z | z
    · exact absurd rfl (L.cellfree _ (PySem.mem_of_lookup z))
    · exact own z
  refine ⟨okL, rfl, e0.bare, Un.kept kp, ⟨_, hns, fun j y v e1 e2 e3 => ?_⟩, fun y c e => ?_, e0.hok.fresh (Nat.le_refl _), fun y c e => ?_, fun p hp => absurd (show p ∈ ([] : List (Addr × Obj)) ++ [] from hp) (by simp),
    e0.hok.kept kp, by rw [List.length_set]; exact I.len⟩
  · rcases (show Vis scope y from e3) with k | k | k
    · have ey : y = q := L.only y k
      subst ey
      have ij : i = j := nodup_ix nd hi e1
      subst ij
      have lt : i < σ.length := by
        rw [I.len]
        exact (List.getElem?_eq_some_iff.mp hi).1
      rw [List.getElem?_set_self lt] at e2
      cases e2
      exact ⟨u, rx, .inl ⟨k, by simp⟩⟩
    · exact absurd rfl (L.cellfree _ (PySem.mem_of_lookup k))
    · have ne : i ≠ j := fun z => by
        subst z
        have e1' : X.N[i]? = some y := e1
        rw [hi] at e1'
        cases e1'
        rw [L.par] at k
        cases k
      rw [List.getElem?_set_ne ne] at e2
      obtain ⟨m, _, look⟩ := I.loc
      have kf := L.up _ (PySem.mem_of_lookup k) rfl
      obtain ⟨w', r, z⟩ := look j y v e1 e2 (kf.elim (fun a => .inr (.inl a)) (fun a => .inr (.inr a)))
      obtain ⟨c2, h2⟩ := own k
      refine ⟨w', r, .inr ⟨.inr k, c2, h2, ?_⟩⟩
      rcases z with ⟨a, _⟩ | ⟨_, c3, b, z⟩
      · have a' : X.env.scope.names.lookup y = some .local := a
        rcases kf with k2 | k2 <;> rw [show X.env.scope.names.lookup y = _ from k2] at a' <;> cases a'
      · have b2 := src h2
        rw [b] at b2
        cases b2
        exact still (I.freeC y _ b) z
  · obtain ⟨w', z⟩ := I.cell y c (src e)
    exact ⟨w', still (I.freeC y c (src e)) z⟩
  · obtain ⟨v, o, ho, _⟩ := I.cell y c (src e)
    exact un.free c o ho (I.freeC y c (src e)) (by simp)
/-- the object of a lambda with defaults dV -/
abbrev lamD (X : Cx) (params : Arguments) (body : Expr) (scope : Scope) (dV doc pm : Value) (c' : Addr) (ctv : Value) : Obj :=
  PySem.W.kdv_obj "<lambda>" (X.env.qual ++ "<lambda>") params (.expr body) scope (cloFrom X.env.cells scope.names []) dV doc pm c' ctv
abbrev lamDF (X : Cx) (params : Arguments) (body : Expr) (scope : Scope) (dV doc pm : Value) (c' : Addr) (ctv : Value) : FuncData :=
  PySem.W.kdv_fn "<lambda>" (X.env.qual ++ "<lambda>") params (.expr body) scope (cloFrom X.env.cells scope.names []) dV doc pm (.ref c') ctv
/-- it is called, in a frame entered from its home at s -/
theorem lam1_code {A : Around} {outer : List Env} {Q : VK} {E : XK} {scope : Scope} {f c' : Addr} {q : Str} {i k : Nat} {x : V} {u dV doc pm ctv : Value} {params : Arguments} {body : Expr} {tb : TE} {args : Args}
    (I : Inv X pins σ H s) (L : Lam1 q X.env.scope scope) (nd : X.N.Nodup) (hi : X.N[i]? = some q) (rx : L2.RelV x u) (e0 : Env0 X.prog X.w X.K X.mg X.base A outer s1 HZ) (hr : Room (k + 1) A)
    (un : Un (frs X.stack) [] H HZ s.heap s1.heap) (of : s1.heap.get? f = some (lamD X params body scope dV doc pm c' ctv)) (hc : HZ c' = some (CodeO c' (X.env.qual ++ "<lambda>"))) (lim : s1.heap.NoLimit)
    (hb : BindsTo s1 (lamDF X params body scope dV doc pm c' ctv) args [(q, u)])
    (hbody : Room k (A.deeper (lamEnv X scope s1.heap.objs.size f c')) → PE (lamCx X A outer s1 HZ E scope f c') body tb) (ht : tb (σ.set i (some x)) HZ Q) :
    codeAny (model X.prog X.w) A (.call (.ref f) args) (CR (L2.CX X.prog X.w) outer X.prog X.w HZ s1 Q E) s1 := by
  obtain ⟨⟨oc, vs, t, hoc, hdc, hvc⟩, _, _⟩ := e0.hok c' _ hc
  refine PySem.W.kla_callFunE hr.depth of rfl L.nc L.ng rfl ⟨c', oc, vs, t, rfl, hoc, hdc, hvc⟩ (hb _ _ _ _ ?_)
  refine wpAny_newFunctionEnv L.cellfree (fun y hy => ?_) (fun h₁ hns hsb => ⟨lim.fresh _ hsb, ?_⟩) L.kd
  · cases List.mem_singleton.mp hy
    exact L.par
  show codeAny _ _ (.expr body (lamEnv X scope s1.heap.objs.size f c')) _ _
  have kp : ∀ b o, s1.heap.get? b = some o → h₁.get? b = some o := fun b o e => hsb.extBut b o (Nat.ne_of_lt (Heap.lt_size e)) (Heap.get?_push_of_some _ e)
  have J := lam1_start (A := A) (outer := outer) (E := E) (f := f) (c' := c') (tk := s1.toks + ([(q, u)] : List (Str × Value)).length) I L nd hi rx e0 hr.hd un hns kp
  refine PySem.W.kla_codeExpr (wpAny_mono ((hbody (hr.deeper _)).run [] _ _ HZ Q J ht) (fun v s' z => ?_) fun e s' z => z)
  obtain ⟨w', H', J', rv, z⟩ := z
  exact ⟨w', H', J'.os, J'.bare, J'.base, J'.hok, rv, z⟩
end
end LamX


set_option maxRecDepth 100000
set_option maxHeartbeats 4000000
/-! A lambda made and kept: its function object as a pin. -/
namespace LamX
open PySem PySem.Spec PyProof.Rows L2
theorem inv_pin {X : Cx} {pins : List (Addr × Obj)} {σ : L2.St} {H : Hp} {s : Shared} (I : Inv X pins σ H s) {f : Addr} {o : Obj} (at_ : s.heap.get? f = some o) (n : H f = none) (nf : f ∉ frs X.stack) (nl : f ≠ X.env.locals)
    (nc : ∀ v : Option Value, o.data ≠ .cell v) : Inv X ((f, o) :: pins) σ H s := by
  refine ⟨I.ok, I.os, I.bare, I.base, I.loc, I.cell, I.free, I.freeC, fun p hp => ?_, I.hok, I.len⟩
  have go : p = (f, o) ∨ p ∈ X.pn ++ pins := by
    rcases List.mem_append.mp hp with h | h
    · exact .inr (List.mem_append.mpr (.inl h))
    · rcases List.mem_cons.mp h with h | h
      · exact .inl h
      · exact .inr (List.mem_append.mpr (.inr h))
  rcases go with rfl | h
  · refine ⟨at_, n, nl, fun h => nf ?_, nc⟩
    rcases I.ok.stk with e | ⟨e, _⟩
    · rw [e]; exact h
    · rw [e]
      obtain ⟨x, hx, q⟩ := List.mem_filterMap.mp h
      exact List.mem_filterMap.mpr ⟨x, List.mem_cons_of_mem _ hx, q⟩
  · exact I.pin p h
theorem not_locals {X : Cx} {pins : List (Addr × Obj)} {σ : L2.St} {H : Hp} {s : Shared} (I : Inv X pins σ H s) {f : Addr} {o : Obj} {fd : FuncData} (at_ : s.heap.get? f = some o) (d : o.data = .func fd) : f ≠ X.env.locals := by
  intro e
  subst e
  obtain ⟨m, ⟨o', es, ep, g, dd, _⟩, _⟩ := I.loc
  rw [at_] at g
  cases g
  rw [d] at dd
  cases dd
section
variable {X : Cx} {T : List (Addr × Str)} {c P : Addr} {params : Arguments} {body : Expr} {scope : Scope} {pos : Pos}
/-- the object of a lambda -/
abbrev lamO (X : Cx) (params : Arguments) (body : Expr) (scope : Scope) (pm : Value) (c' : Addr) (ctv : Value) : Obj :=
  PySem.W.kla_obj "<lambda>" (X.env.qual ++ "<lambda>") params body scope (cloFrom X.env.cells scope.names []) pm c' ctv
/-- a lambda without defaults, evaluated: a new pin -/
theorem lam_pin {pins : List (Addr × Obj)} {σ : L2.St} {H : Hp} {s : Shared} {E : Value → Shared → Prop} {Q : Value → Shared → Prop} (I : Inv X pins σ H s) (TB : TabB X.base X.mg c P) (hcode : X.env.code = .ref c)
    (hm : (P, X.env.qual ++ "<lambda>") ∈ T) (hu : ∀ p ∈ T, p.1 = P → p.2 = X.env.qual ++ "<lambda>") (t : Tabs T H) (hd : defaultsOf params X.env = ([], []))
    (hfree : ∀ y ∈ scope.names, y.2 = .free → ∃ c, X.env.cells.lookup y.1 = some c)
    (k : ∀ (f c' : Addr) (pm ctv : Value) (H1 : Hp) (s' : Shared), Inv X ((f, lamO X params body scope pm c' ctv) :: pins) σ H1 s' → ExtN H H1 → Tabs T H1 →
      H1 c' = some (CodeO c' (X.env.qual ++ "<lambda>")) → f ∉ frs X.stack → Q (.ref f) s') :
    wpAny (model X.prog X.w) X.A (eval (.Lambda params body scope pos) X.env) Q E s := by
  refine lam_make2 I TB hcode hm hu t hd hfree fun f c' pm ctv H1 s' I1 ex t1 at_ n nf hc => ?_
  exact k f c' pm ctv H1 s' (inv_pin I1 at_ n nf (not_locals I1 at_ rfl) (fun _ z => by cases z)) ex t1 hc nf
end
end LamX

set_option maxRecDepth 100000
set_option maxHeartbeats 4000000
/-! A lambda with one parameter, called in a def that got it: a() by its default, a(e) by a value. -/
namespace LamX
open PySem PySem.Spec PyProof.Rows L2
section
variable {X : Cx} {pins : List (Addr × Obj)} {σ : L2.St} {H : Hp} {s : Shared}
/-- the context of the def that got it -/
abbrev gotCx (X : Cx) (CXg : CXT) (Ng : List Str) (qg : Str) (sg : Scope) (g : Addr) (cdg : Value) (s : Shared) (H : Hp) (Eg : XK) (pn : List (Addr × Obj)) (xe : Value → Shared → Prop) : Cx :=
  (cxOf CXg X.prog X.w X.K X.mg X.base Ng qg sg g cdg X.A X.stack s H Eg).tr pn xe
theorem act_end {CXg : CXT} {Eg : XK} {Ng : List Str} {qg : Str} {sg : Scope} {g : Addr} {cdg : Value} {pn : List (Addr × Obj)} {xe : Value → Shared → Prop} {W : WX} {E : XK} {Q : VK} {pinsZ : List (Addr × Obj)} {σZ : L2.St} {H1 : Hp} {s1 : Shared} {f : Addr} {args : List Value}
    (tk : Takes (gotCx X CXg Ng qg sg g cdg s H Eg pn xe) W) (hW : ∀ cls d σ' H', E cls d H' → W cls d σ' H') (I1 : Inv (gotCx X CXg Ng qg sg g cdg s H Eg pn xe) pinsZ σZ H1 s1)
    (rc : codeAny (model X.prog X.w) (X.A.deeper (envOfC qg sg s.heap.objs.size g cdg)) (.call (.ref f) ⟨args, []⟩) (CR (L2.CX X.prog X.w) (envOfC qg sg s.heap.objs.size g cdg :: X.stack) X.prog X.w H1 s1 Q E) s1) :
    wpAny (model X.prog X.w) (X.A.deeper (envOfC qg sg s.heap.objs.size g cdg)) (call (.ref f) args) (EP (gotCx X CXg Ng qg sg g cdg s H Eg pn xe) pinsZ σZ Q) xe s1 := by
  have hx : Passes (L2.CX X.prog X.w) (gotCx X CXg Ng qg sg g cdg s H Eg pn xe) E := passes_call tk hW
  refine wpAny_call (codeAny_mono rc fun r s' z => ?_)
  cases r with
  | error e => exact hx pinsZ σZ H1 s1 e s' I1 z
  | ok fl =>
    cases fl with
    | ret u => exact I1.after z
    | next => exact False.elim z
    | brk => exact False.elim z
    | cont => exact False.elim z
/-- a() -/
theorem pe_act1d {CXg : CXT} {Eg : XK} {Ng : List Str} {qg : Str} {sg : Scope} {g f c' T : Addr} {cdg doc pm ctv : Value} {params : Arguments} {body : Expr} {scope : Scope} {k i : Nat} {a q : Str} {iq : Nat} {pn : List (Addr × Obj)} {xe : Value → Shared → Prop} {W : WX} {E : XK} {tb : TE} {p1 p2 : Pos} {x : V}
    (I : Inv X pins σ H s) (L : Lam1 q X.env.scope scope) (nd : X.N.Nodup) (hiq : X.N[iq]? = some q) (hf : s.heap.get? f = some (lamD X params body scope (.ref T) doc pm c' ctv)) (hfn : H f = none) (hfr : f ∉ frs X.stack) (hT : H T = some (.tup [x]))
    (hbind : ∀ (n : Str) (cl : List (Str × Addr)) (doc pm cv ctv : Value), ∃ kk : Option (Array Value) → Sem (List (Str × Value)), bindArgs (PySem.W.kdv_fn "<lambda>" n params (.expr body) scope cl (.ref T) doc pm cv ctv) ⟨[], []⟩ = seqItems? (.ref T) >>= kk ∧ ∀ u, kk (some #[u]) = pure [(q, u)])
    (tk : Takes (gotCx X CXg Ng qg sg g cdg s H Eg pn xe) W) (hW : ∀ cls d σ' H', E cls d H' → W cls d σ' H') (hr : Room (k + 1) (X.A.deeper (envOfC qg sg s.heap.objs.size g cdg)))
    (hbody : ∀ (A : Around) (outer : List Env) (s : Shared) (H : Hp), Room k (A.deeper (lamEnv X scope s.heap.objs.size f c')) → PE (lamCx X A outer s H E scope f c') body tb)
    (hN : Ng[i]? = some a) (hv : Vis sg a) (hd : (a == ("__debug__" : Str)) = false := by decide) (hcd : (a == ("__classdict__" : Str)) = false := by decide) :
    PE (gotCx X CXg Ng qg sg g cdg s H Eg pn xe) (.Call (.Name a p1) [] [] p2)
      (fun σZ HZ Q => σZ[i]? = some (some (.ref f)) ∧ HZ c' = some (CodeO c' (X.env.qual ++ "<lambda>")) ∧ tb (σ.set iq (some x)) HZ Q) := by
  refine ⟨fun pinsZ sZ σZ HZ Q IZ h => ?_⟩
  obtain ⟨hs, hc, ht⟩ := h
  refine wpAny_Call_Name_kw (thn ((pe_var (pos := p1) (i := i) hN hv hd hcd).run pinsZ sZ σZ HZ (fun v H1 => v = .ref f ∧ H1 = HZ) IZ ⟨.ref f, hs, rfl, rfl⟩) fun u s1 ⟨v, H1, I1, r1, q1⟩ => ?_)
  obtain ⟨rfl, rfl⟩ := q1
  obtain rfl : u = Value.ref f := r1
  have of1 : s1.heap.get? f = some (lamD X params body scope (.ref T) doc pm c' ctv) := I1.base.keep f _ hf hfn hfr (fun z => nomatch (show f ∈ ([] : List Addr) from z))
  refine PySem.W.callWith_F0 ⟨_, _, _, _, of1⟩ (act_end tk hW I1 ?_)
  have hT1 : H1 T = some (.tup [x]) := I1.base.tups T _ hT
  obtain ⟨_, its, rv, oT, eT, _, n, dT⟩ := I1.hok T _ hT1
  cases rv with
  | @cons _ ux _ _ rx rn =>
  cases rn
  obtain ⟨kk, hk1, hk2⟩ := hbind (X.env.qual ++ "<lambda>") (cloFrom X.env.cells scope.names []) doc pm (.ref c') ctv
  exact lam1_code I L nd hiq rx I1.env0 hr I1.base of1 hc I1.nolimit (PySem.BindsTo.of_defaults rfl eT dT hk1 (hk2 ux)) (fun h2 => hbody _ _ s1 H1 h2) ht
/-- a(e) -/
theorem pe_act1a {CXg : CXT} {Eg : XK} {Ng : List Str} {qg : Str} {sg : Scope} {g f c' : Addr} {cdg dV doc pm ctv : Value} {params : Arguments} {body e : Expr} {scope : Scope} {k i : Nat} {a q : Str} {iq : Nat} {pn : List (Addr × Obj)} {xe : Value → Shared → Prop} {W : WX} {E : XK} {tb te : TE} {p1 p2 : Pos}
    (I : Inv X pins σ H s) (L : Lam1 q X.env.scope scope) (nd : X.N.Nodup) (hiq : X.N[iq]? = some q) (hf : s.heap.get? f = some (lamD X params body scope dV doc pm c' ctv)) (hfn : H f = none) (hfr : f ∉ frs X.stack)
    (hbind : ∀ (n : Str) (cl : List (Str × Addr)) (doc pm cv ctv u : Value), bindArgs (PySem.W.kdv_fn "<lambda>" n params (.expr body) scope cl dV doc pm cv ctv) ⟨[u], []⟩ = pure [(q, u)])
    (tk : Takes (gotCx X CXg Ng qg sg g cdg s H Eg pn xe) W) (hW : ∀ cls d σ' H', E cls d H' → W cls d σ' H') (hr : Room (k + 1) (X.A.deeper (envOfC qg sg s.heap.objs.size g cdg)))
    (hbody : ∀ (A : Around) (outer : List Env) (s : Shared) (H : Hp), Room k (A.deeper (lamEnv X scope s.heap.objs.size f c')) → PE (lamCx X A outer s H E scope f c') body tb)
    (hN : Ng[i]? = some a) (hv : Vis sg a) (he : PE (gotCx X CXg Ng qg sg g cdg s H Eg pn xe) e te) (hd : (a == ("__debug__" : Str)) = false := by decide) (hcd : (a == ("__classdict__" : Str)) = false := by decide)
    (hst : starEach [e] (gotCx X CXg Ng qg sg g cdg s H Eg pn xe).env = (false, eval e (gotCx X CXg Ng qg sg g cdg s H Eg pn xe).env) :: starEach [] (gotCx X CXg Ng qg sg g cdg s H Eg pn xe).env := by rfl)
    (hpl : (backTo p2 (starEach [] (gotCx X CXg Ng qg sg g cdg s H Eg pn xe).env)).any (·.1) = false := by rfl) :
    PE (gotCx X CXg Ng qg sg g cdg s H Eg pn xe) (.Call (.Name a p1) [e] [] p2)
      (fun σZ HZ Q => σZ[i]? = some (some (.ref f)) ∧ tCons te tNil σZ HZ fun vs H1 => ∃ x, vs = [x] ∧ H1 c' = some (CodeO c' (X.env.qual ++ "<lambda>")) ∧ tb (σ.set iq (some x)) H1 Q) := by
  refine ⟨fun pinsZ sZ σZ HZ Q IZ h => ?_⟩
  obtain ⟨hs, h2⟩ := h
  refine wpAny_Call_Name_kw (thn ((pe_var (pos := p1) (i := i) hN hv hd hcd).run pinsZ sZ σZ HZ (fun v H1 => v = .ref f ∧ H1 = HZ) IZ ⟨.ref f, hs, rfl, rfl⟩) fun u s1 ⟨v, H1, I1, r1, q1⟩ => ?_)
  obtain ⟨rfl, rfl⟩ := q1
  obtain rfl : u = Value.ref f := r1
  have at_ : ∀ {s2 : Shared} {H2 : Hp}, Inv (gotCx X CXg Ng qg sg g cdg s H Eg pn xe) pinsZ σZ H2 s2 → s2.heap.get? f = some (lamD X params body scope dV doc pm c' ctv) := fun I2 => I2.base.keep f _ hf hfn hfr (fun z => nomatch (show f ∈ ([] : List Addr) from z))
  refine PySem.W.callWith_F ⟨_, _, _, _, at_ I1⟩ (thn ((pa_cons he pa_nil hst).run p2 pinsZ s1 σZ H1 _ I1 h2) fun us s2 hh => ?_) hst hpl
  obtain ⟨vs, H2, I2, r, x, rfl, hc, ht⟩ := hh
  refine ⟨⟨_, _, _, _, at_ I2⟩, ?_⟩
  cases r with
  | @cons _ ux _ _ rx rn =>
  cases rn
  exact act_end tk hW I2 (lam1_code I L nd hiq rx I2.env0 hr I2.base (at_ I2) hc I2.nolimit (fun M A E Q hq => by show wpAny M A (bindArgs _ ⟨[ux], []⟩) Q E _; rw [show bindArgs (lamDF X params body scope dV doc pm c' ctv) ⟨[ux], []⟩ = pure [(q, ux)] from hbind _ _ _ _ _ _ _]; exact wpAny_pure hq) (fun h4 => hbody _ _ s2 H2 h4) ht)
end
end LamX

set_option maxRecDepth 100000
set_option maxHeartbeats 4000000
/-! A lambda with one constant default, evaluated: its object a new pin, its defaults a known tuple. -/
namespace LamX
open PySem PySem.Spec PyProof.Rows L2
section
variable {X : Cx} {T : List (Addr × Str)} {c P : Addr} {params : Arguments} {body : Expr} {scope : Scope} {pos : Pos}
theorem frs_new {pins : List (Addr × Obj)} {σ : L2.St} {H : Hp} {s : Shared} (I : Inv X pins σ H s) {f : Addr} (hf : s.heap.objs.size ≤ f) : f ∉ frs X.stack := fun z => by
  rcases List.mem_cons.mp (I.stkSub _ z) with e | e
  · exact Nat.lt_irrefl _ (Nat.lt_of_lt_of_le (e ▸ I.lt) hf)
  · exact I.nofs hf e
theorem lam_tail {pins : List (Addr × Obj)} {σ : L2.St} {H : Hp} {s : Shared} {dV : Value} {E : Value → Shared → Prop} {Q : Value → Shared → Prop} (I : Inv X pins σ H s) (TB : TabB X.base X.mg c P) (hcode : X.env.code = .ref c)
    (hm : (P, X.env.qual ++ "<lambda>") ∈ T) (hu : ∀ p ∈ T, p.1 = P → p.2 = X.env.qual ++ "<lambda>") (t : Tabs T H)
    (hfree : ∀ y ∈ scope.names, y.2 = .free → ∃ c, X.env.cells.lookup y.1 = some c)
    (k : ∀ (f c' : Addr) (doc pm ctv : Value) (H1 : Hp) (s' : Shared), Inv X ((f, lamD X params body scope dV doc pm c' ctv) :: pins) σ H1 s' → ExtN H H1 → Tabs T H1 →
      H1 c' = some (CodeO c' (X.env.qual ++ "<lambda>")) → f ∉ frs X.stack → Q (.ref f) s') :
    wpAny (model X.prog X.w) X.A (makeTail "<lambda>" (X.env.qual ++ "<lambda>") params (.expr body) scope X.env dV .none none pos pos.line) Q E s := by
  obtain ⟨ps, hP, ht, ha⟩ := t _ hm
  have atP := I.hok P _ hP
  have bmP := TB.bm.keeps I.bk
  have pin : ∀ {H1 : Hp} {s' : Shared} {f c' : Addr} {doc pm ctv : Value}, Inv X pins σ H1 s' → s'.heap.get? f = some (lamD X params body scope dV doc pm c' ctv) → H1 f = none → f ∉ frs X.stack →
      Inv X ((f, lamD X params body scope dV doc pm c' ctv) :: pins) σ H1 s' := fun J at_ n nf => inv_pin J at_ n nf (not_locals J at_ rfl) (fun _ z => by cases z)
  cases hc : codeAmong pos ps.toList with
  | some cv =>
    obtain ⟨c', rfl, hco⟩ := ha pos cv hc
    refine PySem.W.kdv_makeTailHit (mg := X.mg) (c := c) (P := P) (ps := ps) (closure_ok hfree) I.ok.glob (I.mod.glob.keeps I.bk) hcode (TB.code.keeps I.bk) atP ht hc bmP fun ctv doc h' tk hx hz => ?_
    have J : Inv X pins σ H { s with heap := h'.push (lamD X params body scope dV doc ((X.mg "__name__").getD .none) c' ctv), toks := tk } := I.kept fun b o e => Heap.get?_push_of_some _ (hx b o e)
    exact k _ c' doc _ ctv H _ (pin J (Heap.get?_push_size _ rfl) (I.hok.fresh hz) (frs_new I hz)) (ExtN.refl H) t hco (frs_new I hz)
  | none =>
    refine PySem.W.kdv_makeTail (mg := X.mg) (c := c) (P := P) (ps := ps) (closure_ok hfree) I.ok.glob (I.mod.glob.keeps I.bk) hcode (TB.code.keeps I.bk) atP ht hc TB.gP bmP fun c' ctv doc h' tk hx hge hlt hrec htb => ?_
    obtain ⟨c2, oc, vs, tq, e2, hoc, hdc, hv⟩ := hrec
    cases e2
    have hz : s.heap.objs.size ≤ h'.objs.size := Nat.le_trans hge (Nat.le_of_lt hlt)
    have nC : H c' = none := I.hok.fresh hge
    have J := inv_table (t' := tk) (more := #[rawInt pos.line, rawInt pos.col, .ref c']) (h' := h'.push (lamD X params body scope dV doc ((X.mg "__name__").getD .none) c' ctv)) I hP
      (fun b o hb e => Heap.get?_push_of_some _ (hx b o hb e)) (Heap.get?_push_of_some _ htb) hge ⟨oc, vs, tq, Heap.get?_push_of_some _ hoc, hdc, hv⟩
    have ext : ExtN H (upd (upd H P (.tbl (ps ++ #[rawInt pos.line, rawInt pos.col, .ref c']))) c' (CodeO c' (X.env.qual ++ "<lambda>"))) := fun b o e n => by
      have n1 : b ≠ c' := ne_of_none e nC
      have n2 : b ≠ P := fun z => by subst z; rw [hP] at e; exact n ps (Option.some.inj e).symm
      rw [upd_ne n1, upd_ne n2]
      exact e
    have nf1 : h'.objs.size ≠ c' := Nat.ne_of_gt hlt
    have nf2 : h'.objs.size ≠ P := Nat.ne_of_gt (Nat.lt_of_lt_of_le (Heap.lt_size atP) hz)
    have hfn : (upd (upd H P (.tbl (ps ++ #[rawInt pos.line, rawInt pos.col, .ref c']))) c' (CodeO c' (X.env.qual ++ "<lambda>"))) h'.objs.size = none := by
      rw [upd_ne nf1, upd_ne nf2]
      exact I.hok.fresh hz
    refine k h'.objs.size c' doc _ ctv _ _ (pin J (Heap.get?_push_size _ rfl) hfn (frs_new I hz)) ext (fun p hp => ?_) upd_same (frs_new I hz)
    by_cases hb : p.1 = P
    · rw [hu p hp hb, hb]
      have eL : (ps ++ #[rawInt pos.line, rawInt pos.col, .ref c']).toList = ps.toList ++ [rawInt pos.line, rawInt pos.col, .ref c'] := by simp
      refine ⟨_, (upd_ne (ne_of_none hP nC)).trans upd_same, eL ▸ PySem.TriplesOk_snoc _ _ _ _ ht, fun p' cv z => ?_⟩
      rw [eL] at z
      rcases among_app _ ht z with z | z
      · obtain ⟨c0, z1, z2⟩ := ha p' cv z
        exact ⟨c0, z1, ext _ _ z2 codeO_ne⟩
      · exact ⟨c', z, upd_same⟩
    · obtain ⟨qs, a1, a2, a3⟩ := t p hp
      refine ⟨qs, ?_, a2, fun p' cv z => ?_⟩
      · rw [upd_ne (ne_of_none a1 nC), upd_ne hb]
        exact a1
      · obtain ⟨c0, z1, z2⟩ := a3 p' cv z
        exact ⟨c0, z1, ext _ _ z2 codeO_ne⟩
/-- lambda q=z: body -/
theorem lam_pin1 {pins : List (Addr × Obj)} {σ : L2.St} {H : Hp} {s : Shared} {E : Value → Shared → Prop} {Q : Value → Shared → Prop} {z : Int} {j : Nat} {dp : Pos} (I : Inv X pins σ H s) (TB : TabB X.base X.mg c P) (hcode : X.env.code = .ref c)
    (hm : (P, X.env.qual ++ "<lambda>") ∈ T) (hu : ∀ p ∈ T, p.1 = P → p.2 = X.env.qual ++ "<lambda>") (t : Tabs T H) (hd : params.defaults = [.Constant (.int z) j dp]) (hk : params.kw_defaults = [])
    (hfree : ∀ y ∈ scope.names, y.2 = .free → ∃ c, X.env.cells.lookup y.1 = some c) (hx : X.xe = E)
    (k : ∀ (f c' Td : Addr) (doc pm ctv : Value) (H1 : Hp) (s' : Shared), Inv X ((f, lamD X params body scope (.ref Td) doc pm c' ctv) :: pins) σ H1 s' → ExtN H H1 → Tabs T H1 →
      H1 c' = some (CodeO c' (X.env.qual ++ "<lambda>")) → H1 Td = some (.tup [.int z]) → f ∉ frs X.stack → Q (.ref f) s') :
    wpAny (model X.prog X.w) X.A (eval (.Lambda params body scope pos) X.env) Q E s := by
  subst hx
  refine PySem.W.kdv_lam (by rw [hd]; rfl) hk ?_
  rw [hd]
  refine PySem.W.kdv_all1 (thn ((pe_int (i := z) (j := j) (pos := dp)).run pins s σ H (fun v H1 => v = .int z ∧ H1 = H) I ⟨rfl, rfl⟩) fun u s1 hh => PySem.W.kdv_all0 ?_)
  obtain ⟨v, H1, I1, rv, rfl, rfl⟩ := hh
  rw [makeFunction_eq]
  simp only [List.zip_nil_right, List.filterMap_nil, List.isEmpty_nil, if_true, pure_bind, List.isEmpty_cons, Bool.false_eq_true, if_false]
  refine wpAny_bind (wpAny_newTextTuple ?_)
  have ln : H1 s1.heap.objs.size = none := I1.hok.fresh (Nat.le_refl _)
  have J : Inv X pins σ (upd H1 s1.heap.objs.size (.tup [.int z])) { s1 with heap := s1.heap.push { cls := .type "tuple", data := .seq ([u] : List Value).toArray } } := by
    refine I1.laid (t' := s1.toks) (fun b o e => Heap.get?_push_of_some _ e) (Nat.le_refl _) ⟨(show 1 ≤ sizeLine by decide), [u], .cons rv .nil, _, Heap.get?_push_size _ rfl, rfl, _, rfl⟩
  have ex : ∀ b o, H1 b = some o → (upd H1 s1.heap.objs.size (.tup [.int z])) b = some o := fun b o e => by rw [upd_ne (ne_of_none e ln)]; exact e
  refine lam_tail J TB hcode hm hu (t.ext ex) hfree fun f c' doc pm ctv H2 s' I2 e2 t2 hc nf => ?_
  exact k f c' _ doc pm ctv H2 s' I2 ((ExtN.of ex).trans e2) t2 hc (e2 _ _ upd_same (fun _ w => by cases w)) nf
end
end LamX

set_option maxRecDepth 100000
set_option maxHeartbeats 4000000
/-! A list comprehension whose element is told with what is known of the def around it. -/
namespace LamX
open PySem PySem.Spec PyProof.Rows L2
section
variable {X : Cx}
/-- what a block, begun at s, knows of the def around it -/
structure Home (X : Cx) (pins : List (Addr × Obj)) (σ : L2.St) (H : Hp) (s : Shared) (fp : List Addr) : Prop where
  inv : Inv X pins σ H s
  its : ∀ b ∈ fp, FpOk X pins H b ∧ b < s.heap.objs.size
/-- within the block: the def around it, as it is now -/
theorem Home.now {pins pinsB : List (Addr × Obj)} {σ σB : L2.St} {H HB : Hp} {s sB : Shared} {fp : List Addr} {scope : Scope} {cenv : Env} (h : Home X pins σ H s fp) (I : Inv (X.blk s H scope cenv fp) pinsB σB HB sB) : Inv X pins σ HB sB :=
  h.inv.call' (ch := fp) I.os I.base I.hok I.bare fun b hb =>
    let z := (h.its b hb).1.2
    ⟨z.2.2.1, z.1, z.2.2.2.1, z.2.2.2.2⟩
theorem lc_home {pins : List (Addr × Obj)} {s : Shared} {σ : L2.St} {H : Hp} {Q : VK} {elt tg iter : Expr} {scope : Scope} {own : List (Str × Nat)} {pos pos' : Pos} {wi : TI} {g : TG} {te : L2.St → TE} {use : Option (Value → Sem Unit)} {Qf : Value → Shared → Prop}
    (hc : X.calm = true) (hN : X.N.Nodup) (I : Inv X pins σ H s) (hi : PI X tg iter wi) (ok : BlkOk X.N X.env.scope scope own)
    (hg : ∀ (s : Shared) (H : Hp) (C : Addr) (cl : List (Str × Addr)) (fp : List Addr), PG (X.blk s H scope (compEnvC scope cl C X.env) fp) tg g)
    (he : ∀ (s : Shared) (H : Hp) (C : Addr) (cl : List (Str × Addr)) (fp : List Addr) (pins : List (Addr × Obj)) (σ : L2.St), Home X pins σ H s fp → PE (X.blk s H scope (compEnvC scope cl C X.env) fp) elt (te σ))
    (hs : ∀ x, foldedSetIterable iter X.env x = pure x) (h : tLc wi g tYes (te σ) (own.map (·.2)) σ H Q)
    (out : ∀ D C s' m H', Inv X pins σ H' s' → Q (.ref D) H' → s'.heap.Ns C m → FpOk X pins H' C → compPost (model X.prog X.w) X.A X.xe use Qf (.ref D) C (.ok .next) s') :
    wpAny (model X.prog X.w) X.A (comprehension (.ListComp elt [⟨tg, iter, [], 0⟩] scope pos) scope X.env pos' (newList []) false (eval iter X.env) use) Qf X.xe s := by
  have up : ∀ y ∈ scope.names, y.2 = .free → ∃ c, X.env.cells.lookup y.1 = some c := fun y hy e => (ok.free y hy e).elim (fun z => I.ok.has _ (.inl z)) (fun z => I.ok.has _ (.inr z))
  refine wpAny_comprehension_free (use := use) rfl hs (closure_ok up) ok.kind (fun y hy e => by rw [ok.uniq y hy, e]) (thn (hi.run pins s σ H _ I h) fun xv sa ha => thn ha fun itv sb hb => ?_)
  obtain ⟨it, fp, tn, J, Hb, rfl, Ib, T, stb, fpb, q⟩ := hb
  refine wpAny_newObj_type (newEnv_comp ?_) (Nat.zero_le _)
  have Dn : Hb sb.heap.objs.size = none := Ib.hok.fresh (Nat.le_refl _)
  obtain ⟨W, ⟨m0, w0⟩, turn⟩ := q _ Dn
  generalize eD : sb.heap.objs.size = D at Dn w0 turn ⊢
  generalize eH : upd Hb D (.lst []) = H3 at w0
  generalize es : ({ sb with heap := sb.heap.push { cls := .type "list", data := .seq ([] : List Value).toArray } } : Shared) = s3
  have hp3 : s3.heap = sb.heap.push { cls := .type "list", data := .seq ([] : List Value).toArray } := by rw [← es]
  have keep3 : ∀ b o, sb.heap.get? b = some o → s3.heap.get? b = some o := fun b o e => by rw [hp3]; exact Heap.get?_push_of_some _ e
  have I3 : Inv X pins σ H3 s3 := by
    rw [← es, ← eH]
    refine Ib.laid (t' := sb.toks) (fun b o e => Heap.get?_push_of_some _ e) (Nat.le_of_eq eD) ⟨Nat.zero_le _, [], 0, .nil, ?_⟩
    rw [← eD]
    exact Heap.get?_push_size _ rfl
  have small : ∀ b ∈ fp, b < sb.heap.objs.size := fun b hb => by
    obtain ⟨o, e, _⟩ := T.obj _ _ stb b hb
    exact Heap.lt_size e
  have home : Home X pins σ H3 s3 fp := by
    refine ⟨I3, fun b hb => ⟨⟨?_, (fpb b hb).2⟩, ?_⟩⟩
    · rw [← eH, upd_ne (by rw [← eD]; exact Nat.ne_of_lt (small b hb))]
      exact (fpb b hb).1
    · rw [hp3, Heap.size_push]
      exact Nat.lt_succ_of_lt (small b hb)
  have I4 := block_start I3 ok hN home.its
  generalize ec : compEnvC scope (cellsFrom (s3.heap.objs.size + 1) scope.names (cloFrom X.env.cells scope.names [])) s3.heap.objs.size X.env = ce at I4
  have pg : PG (X.blk s3 H3 scope ce fp) tg g := by rw [← ec]; exact hg ..
  have pe : PE (X.blk s3 H3 scope ce fp) elt (te σ) := by rw [← ec]; exact he _ _ _ _ _ pins σ home
  have cL : ce.locals = s3.heap.objs.size := by rw [← ec]; rfl
  generalize e4 : ({ s3 with heap := pushCells (s3.heap.push { cls := .type "dict", data := .dict #[] }) scope.names } : Shared) = s4 at I4
  have st4 : tn 0 s4.heap := T.keep _ _ _ stb fun b _ o e => by
    rw [← e4]
    exact pushCells_keeps _ _ _ _ (Heap.get?_push_of_some _ (keep3 b o e))
  have nfp : ∀ b ∈ fp, H3 b = none := fun b hb => (home.its b hb).1.1
  have stat : ∀ {σ' : L2.St} {H' : Hp} {s' : Shared}, Inv (X.blk s3 H3 scope ce fp) [] σ' H' s' → (∀ b ∈ fp, H' b = none) → ∀ b ∈ fp, FpOk (X.blk s3 H3 scope ce fp) [] H' b := fun {σ' H' s'} I' hn b hb =>
    ⟨hn b hb, (I'.ok.exf b hb).1, I'.ok.exfs b hb, .inl hb, fun x c e => (I'.ok.exf b hb).2 x c e, fun p hp => absurd (show p ∈ ([] : List (Addr × Obj)) ++ [] from hp) (by simp)⟩
  let R := compPost (model X.prog X.w) X.A X.xe use Qf (.ref D) s3.heap.objs.size
  have loop : codeAny (model X.prog X.w) X.A (.compLoop (.ListComp elt [⟨tg, iter, [], 0⟩] scope pos) 0 (.ref it) (.ref D) ce) R s4 := by
    refine compLoop_any (fun n s' => ∃ i H', Inv (X.blk s3 H3 scope ce fp) [] (wipe σ (own.map (·.2))) H' s' ∧ tn i s'.heap ∧ (∀ b ∈ fp, H' b = none) ∧ W i n H') ?_ m0 ⟨0, H3, I4, st4, nfp, w0⟩
    rintro n s5 ⟨i, H5, I5, st5, n5, w5⟩
    rcases turn i n H5 w5 with ⟨stop, qq⟩ | ⟨go, Nx, nxt, step⟩
    · refine thnF (T.done (X.blk s3 H3 scope ce fp) rfl rfl rfl hc i [] s5 _ H5 (fun _ _ => False) I5 (stat I5 n5) st5 stop) fun r s6 ⟨hr, I6⟩ => ?_
      subst hr
      have I7 := home.now I6
      obtain ⟨m, hn, _⟩ := I6.loc
      have nC : H5 s3.heap.objs.size = none := cL ▸ (show H5 ce.locals = none from I6.free)
      have hn : s6.heap.Ns s3.heap.objs.size m := cL ▸ (show s6.heap.Ns ce.locals m from hn)
      exact out D _ s6 m H5 I7 qq hn (I3.fpOk (Nat.le_refl _) nC)
    · refine thnF (T.item (X.blk s3 H3 scope ce fp) rfl rfl rfl hc i [] s5 _ H5 (fun _ _ => False) I5 (stat I5 n5) st5 go) fun r s6 ⟨u, hr, h6⟩ => ?_
      subst hr
      refine thnF h6 fun _ s7 ⟨x, H7, I7, r7, y7, st7, n7⟩ => ?_
      refine thnF (pg.run _ s7 _ H7 x u _ (I7.pinned (stat I7 n7) (T.obj _ _ st7)) r7 (step x H7 y7)) fun _ s8 ⟨σ8, H8, I8, hw8, q8⟩ => ?_
      refine thnF ((pts_nil (X := X.blk s3 H3 scope ce fp)).run _ s8 σ8 H8 _ I8 q8) fun b s9 ⟨H9, I9, q9⟩ => ?_
      have fin : ∀ {s' : Shared} {H' : Hp}, Inv (X.blk s3 H3 scope ce fp) ([] ++ pinsAt fp s7.heap) σ8 H' s' → Nx H' → ∃ m, m < n ∧ ∃ i H', Inv (X.blk s3 H3 scope ce fp) [] (wipe σ (own.map (·.2))) H' s' ∧ tn i s'.heap ∧ (∀ b ∈ fp, H' b = none) ∧ W i m H' := fun {s' H'} I' nx => by
        obtain ⟨m', hm, w'⟩ := nxt H' nx
        have at7 : ∀ b ∈ fp, ∀ o, s7.heap.get? b = some o → s'.heap.get? b = some o ∧ H' b = none := fun b hb o e =>
          have z := I'.pin (b, o) (List.mem_append_right _ (List.mem_append_right _ (mem_pinsAt hb e)))
          ⟨z.1, z.2.1⟩
        refine ⟨m', hm, i + 1, H', (I'.unpinned (pins := [])).weak (by rw [← hw8, wipe_length]) (fun j v e => ?_), T.keep _ _ _ st7 fun b hb o e => (at7 b hb o e).1, fun b hb => ?_, w'⟩
        · rw [← hw8] at e
          exact (wipe_some e).1
        · obtain ⟨o, e, _⟩ := T.obj _ _ st7 b hb
          exact (at7 b hb o e).2
      cases b with
      | false => exact fin I9 q9
      | true =>
        refine thnF (pe.run _ s9 σ8 H9 _ I9 q9) fun z s10 ⟨yv, H10, I10, r10, acc, hD10, hz10, nx⟩ => ?_
        exact app_ok (X := X.blk s3 H3 scope ce fp) I10 hD10 hz10 r10 fun s11 I11 => fin I11 nx
  have fin := codeAny_compStart_list loop (T.self X.A 0 _ _ _ st4 loop)
  rw [← ec] at fin
  exact fin
/-- as a value -/
theorem pe_lcH {elt tg iter : Expr} {scope : Scope} {own : List (Str × Nat)} {pos : Pos} {wi : TI} {g : TG} {te : L2.St → TE} (hc : X.calm = true) (hN : X.N.Nodup) (hi : PI X tg iter wi) (ok : BlkOk X.N X.env.scope scope own)
    (hg : ∀ (s : Shared) (H : Hp) (C : Addr) (cl : List (Str × Addr)) (fp : List Addr), PG (X.blk s H scope (compEnvC scope cl C X.env) fp) tg g)
    (he : ∀ (s : Shared) (H : Hp) (C : Addr) (cl : List (Str × Addr)) (fp : List Addr) (pins : List (Addr × Obj)) (σ : L2.St), Home X pins σ H s fp → PE (X.blk s H scope (compEnvC scope cl C X.env) fp) elt (te σ))
    (hs : ∀ x, foldedSetIterable iter X.env x = pure x := by intro _; rfl) :
    PE X (.ListComp elt [⟨tg, iter, [], 0⟩] scope pos) (fun σ H Q => tLc wi g tYes (te σ) (own.map (·.2)) σ H Q) := by
  refine ⟨fun pins s σ H Q I h => ?_⟩
  rw [eval_ListComp]
  refine lc_home hc hN I hi ok hg he hs h fun D C s' m H' I' q hn fpC => ⟨m, hn, fun h'' sb => ?_⟩
  obtain ⟨f0, f1, _, f3, f4, f5⟩ := fpC
  exact ⟨.ref D, H', I'.turned (t' := s'.toks) (fun b o hb e => (sb.2 b hb).trans e) f0 f1 f3 f4 f5, rfl, q⟩
/-- y = [..] on one line, y a plain local -/
theorem ps_setLcH {i : Nat} {y : Str} {py : Pos} {elt tg iter : Expr} {scope : Scope} {own : List (Str × Nat)} {pos spos : Pos} {wi : TI} {g : TG} {te : L2.St → TE} (hc : X.calm = true) (hN : X.N.Nodup) (hy : X.N[i]? = some y) (hyl : X.env.scope.names.lookup y = some .local)
    (hsw : swapsWith (.ListComp elt [⟨tg, iter, [], 0⟩] scope pos) (some (.Name y py)) spos.line X.env = pure true) (hi : PI X tg iter wi) (ok : BlkOk X.N X.env.scope scope own)
    (hg : ∀ (s : Shared) (H : Hp) (C : Addr) (cl : List (Str × Addr)) (fp : List Addr), PG (X.blk s H scope (compEnvC scope cl C X.env) fp) tg g)
    (he : ∀ (s : Shared) (H : Hp) (C : Addr) (cl : List (Str × Addr)) (fp : List Addr) (pins : List (Addr × Obj)) (σ : L2.St), Home X pins σ H s fp → PE (X.blk s H scope (compEnvC scope cl C X.env) fp) elt (te σ))
    (hs : ∀ x, foldedSetIterable iter X.env x = pure x := by intro _; rfl) :
    PS X (.Assign [.Name y py] (.ListComp elt [⟨tg, iter, [], 0⟩] scope pos) spos) (tAsg (fun σ H Q => tLc wi g tYes (te σ) (own.map (·.2)) σ H Q) (gName i)) := by
  refine ⟨fun pins s σ H D I h => ?_⟩
  have h2 : tLc wi g tYes (te σ) (own.map (·.2)) σ H (fun x H1 => gName i x σ H1 D.nx) := h
  rw [exec_Assign_Name_used _ _ _ _ hsw]
  refine wpAny_bind (wpAny_standAt (wpAny_bind (wpAny_bind (thn (lc_home (use := some (assign (.Name y py) X.env)) (Qf := fun _ s' => SP X pins D .next s') hc hN I hi ok hg he hs h2 fun L C s' m H' I' q hn fpC => ?_) fun _ s' hq => wpAny_pure (wpAny_pure hq)))))
  obtain ⟨f0, f1, _, f3, f4, f5⟩ := fpC
  refine wpAny_assign_Name (store_ok2 (v := V.ref L) I' hN hy (.inl hyl) rfl (fun s2 I2 hh => ?_) (.inr hyl))
  obtain ⟨a, sb, ha⟩ := hh
  have ne : C ≠ a := ha.elim (fun z => by rw [z]; exact f1) (fun z e => f4 y a z e.symm)
  exact ⟨m, hn.sameBut sb ne, fun h3 sb3 => ⟨_, H', I2.turned (t' := s2.toks) (fun b o hb e => (sb3.2 b hb).trans e) f0 f1 f3 f4 f5, q⟩⟩
end
end LamX

set_option maxRecDepth 100000
set_option maxHeartbeats 4000000
/-! In a comprehension: a def called with one of several lambdas that the def around keeps. -/
namespace LamX
open PySem PySem.Spec PyProof.Rows L2
/-- a lambda's text; with a default: the parameter, its slot, the number -/
structure LamJ where
  params : Arguments
  body : Expr
  scope : Scope
  dflt : Option (Str × Nat × Int)
/-- the slots as the lambda sees them -/
def LamJ.sl (j : LamJ) (σ : L2.St) : L2.St := match j.dflt with
  | none => σ
  | some (_, i, z) => σ.set i (some (.int z))
/-- it is kept at f -/
def LamJ.At (X : Cx) (j : LamJ) (f c' : Addr) (H : Hp) : Prop := f ∉ frs X.stack ∧ H c' = some (CodeO c' (X.env.qual ++ "<lambda>")) ∧ (match j.dflt with
  | none => ∃ pm ctv, (f, lamO X j.params j.body j.scope pm c' ctv) ∈ X.pn
  | some (_, _, z) => ∃ Td doc pm ctv, (f, lamD X j.params j.body j.scope (.ref Td) doc pm c' ctv) ∈ X.pn ∧ H Td = some (.tup [.int z]))
/-- what is asked of its text, and what its body does -/
structure LamJ.Ok (X : Cx) (k : Nat) (j : LamJ) (t : XK → TE) : Prop where
  fit : match j.dflt with
    | none => LamS X.env.scope j.scope ∧ ∀ (q : Str) (cl : List (Str × Addr)) (pm cv ctv : Value), bindArgs (PySem.W.kla_fn "<lambda>" q j.params j.body j.scope cl pm cv ctv) ⟨[], []⟩ = pure []
    | some (q, i, z) => Lam1 q X.env.scope j.scope ∧ X.N[i]? = some q ∧ ∀ (Td : Addr) (n : Str) (cl : List (Str × Addr)) (doc pm cv ctv : Value), ∃ kk : Option (Array Value) → Sem (List (Str × Value)),
        bindArgs (PySem.W.kdv_fn "<lambda>" n j.params (.expr j.body) j.scope cl (.ref Td) doc pm cv ctv) ⟨[], []⟩ = seqItems? (.ref Td) >>= kk ∧ ∀ u, kk (some #[u]) = pure [(q, u)]
  does : ∀ (A : Around) (outer : List Env) (s : Shared) (H : Hp) (E : XK) (f c' : Addr), Room k (A.deeper (lamEnv X j.scope s.heap.objs.size f c')) → PE (lamCx X A outer s H E j.scope f c') j.body (t E)
theorem LamJ.Ok.up {X : Cx} {k : Nat} {j : LamJ} {t : XK → TE} (o : LamJ.Ok X k j t) : ∀ y ∈ j.scope.names, y.2 = .free → X.env.scope.names.lookup y.1 = some .cell ∨ X.env.scope.names.lookup y.1 = some .free := by
  obtain ⟨params, body, scope, dflt⟩ := j
  obtain ⟨fit, _⟩ := o
  match dflt, fit with
  | none, fit => exact fit.1.free
  | some (_, _, _), fit => exact fit.1.up
theorem LamJ.acts {X : Cx} {k : Nat} {j : LamJ} {t : XK → TE} (o : LamJ.Ok X k j t) (nd : X.N.Nodup) {pins : List (Addr × Obj)} {σ : L2.St} {H : Hp} {s : Shared} (I : Inv X pins σ H s) {f c' : Addr} (at_ : j.At X f c' H)
    {Ng : List Str} {x a : Str} {sg : Scope} {g : Addr} {cdg : Value} (hN : Ng[0]? = some a) (hv : Vis sg a) (hd : (a == ("__debug__" : Str)) = false) (hcd : (a == ("__classdict__" : Str)) = false)
    (hr : Room (k + 1) (X.A.deeper (envOfC x sg s.heap.objs.size g cdg))) (W : WX) (pn : List (Addr × Obj)) (xe : Value → Shared → Prop) (E : XK) (p1 p2 : Pos)
    (tk : Takes ((cxOf C8.CX0 X.prog X.w X.K X.mg X.base Ng x sg g cdg X.A X.stack s H C8.E0).tr pn xe) W) (hW : ∀ cls d σ' H', E cls d H' → W cls d σ' H') :
    PE ((cxOf C8.CX0 X.prog X.w X.K X.mg X.base Ng x sg g cdg X.A X.stack s H C8.E0).tr pn xe) (.Call (.Name a p1) [] [] p2)
      (fun σZ HZ Q => σZ[0]? = some (some (.ref f)) ∧ HZ c' = some (CodeO c' (X.env.qual ++ "<lambda>")) ∧ t E (j.sl σ) HZ Q) := by
  obtain ⟨params, body, scope, dflt⟩ := j
  obtain ⟨fit, does⟩ := o
  obtain ⟨nf, hc, at_⟩ := at_
  match dflt, fit, at_ with
  | none, fit, at_ =>
    obtain ⟨pm, ctv, mem⟩ := at_
    obtain ⟨h1, h2, _⟩ := I.pin _ (List.mem_append.mpr (.inl mem))
    exact pe_act (i := 0) I fit.1 h1 h2 nf (fit.2 ..) tk hW hr (fun A outer s H h => does A outer s H E f c' h) hN hv hd hcd
  | some (q, i, z), fit, at_ =>
    obtain ⟨Td, doc, pm, ctv, mem, hT⟩ := at_
    obtain ⟨h1, h2, _⟩ := I.pin _ (List.mem_append.mpr (.inl mem))
    exact pe_act1d (i := 0) I fit.1 nd fit.2.1 h1 h2 nf hT (fit.2.2 Td) tk hW hr (fun A outer s H h => does A outer s H E f c' h) hN hv hd hcd
def tPinH (X : Cx) (l : Nat → LamJ) (n : Nat) (t : Nat → XK → TE) (TT : (XK → Hp → VK → Prop) → Hp → VK → Prop) (te : TE) (σ : L2.St) : TE := fun σB HB Q =>
  te σB HB fun v H1 => ∃ (j : Nat) (f c' : Addr), j < n ∧ v = .ref f ∧ (l j).At X f c' H1 ∧ TT (fun E H' Q' => t j E ((l j).sl σ) H' Q') H1 Q
theorem pe_pinH {X : Cx} {TT : (XK → Hp → VK → Prop) → Hp → VK → Prop} {x a : Str} {g : Addr} {k n : Nat} {pg : Arguments} {bg : List Stmt} {sg : Scope} {dV kV doc pm cdv ct oc : Value}
    {an od : Option Addr} {osl : Array (Option Value)} {Ng : List Str} {l : Nat → LamJ} {t : Nat → XK → TE} {e : Expr} {te : TE} {p pos : Pos}
    {pins : List (Addr × Obj)} {σ : L2.St} {s0 : Shared} {H0 : Hp} {fp : List Addr} {scope : Scope} {cenv : Env} (home : Home X pins σ H0 s0 fp) (nd : X.N.Nodup)
    (hg : Gl (X.blk s0 H0 scope cenv fp) x) (hm : X.mg x = some (.ref g)) (hk : PySem.W.keepIn X.K (.ref g) = true)
    (lk : X.K.lookup g = some ⟨oc, od, .func (PySem.W.fnOf x x pg bg sg dV kV doc pm an cdv ct), osl⟩) (hcg : PySem.W.codeIn X.K cdv x = true)
    (hb : L2.Binds X.K (PySem.W.fnOf x x pg bg sg dV kV doc pm an cdv ct) [a] []) (Sg : FnScope Ng [a] sg) (hNg : Ng[0]? = some a) (hva : Vis sg a)
    (hG : GivesTo X Ng x sg g cdv bg a (X.env.qual ++ "<lambda>") TT) (hr : Room (k + 2) X.A) (he : PE (X.blk s0 H0 scope cenv fp) e te)
    (L : ∀ j < n, LamJ.Ok X k (l j) (t j))
    (hdb : (x == ("__debug__" : Str)) = false := by decide) (hd : (a == ("__debug__" : Str)) = false := by decide) (hcd : (a == ("__classdict__" : Str)) = false := by decide)
    (hst : starEach [e] cenv = (false, eval e cenv) :: starEach [] cenv := by rfl) (hpl : (backTo pos (starEach [] cenv)).any (·.1) = false := by rfl) :
    PE (X.blk s0 H0 scope cenv fp) (.Call (.Name x p) [e] [] pos) (tPinH X l n t TT te σ) := by
  refine ⟨fun pinsB sB σB HB Q I h => ?_⟩
  refine wpAny_Call_Name_kw (ld_glob I hg hm ?_ hdb)
  have h2 : tCons te tNil σB HB (fun vs H1 => match vs with
      | [v] => ∃ (j : Nat) (f c' : Addr), j < n ∧ v = .ref f ∧ (l j).At X f c' H1 ∧ TT (fun E H' Q' => t j E ((l j).sl σ) H' Q') H1 Q
      | _ => False) := h
  refine PySem.W.callWith_K (h₀ := X.base) I.ok.mod.kin hk (thn ((pa_cons he pa_nil hst).run pos pinsB sB σB HB _ I h2) fun us s1 hh => ?_) hst hpl
  obtain ⟨vs, H1, I1, r, q⟩ := hh
  refine ⟨I1.kIn, ?_⟩
  match vs, r, q with
  | [v], r, q =>
    obtain ⟨j, f, c', lt, rfl, at_, tt⟩ := q
    have I2 := home.now I1
    cases r with
    | cons r0 r1 =>
    cases r1
    cases r0
    have rc := run_ofS lk hcg Sg hr I2.env0 (hb s1 [Value.ref f] I1.kIn rfl) (.cons rfl .nil) rfl (CX := C8.CX0) (Q := Q) (E := C8.E0) (vs := [V.ref f]) fun hr' => by
      obtain ⟨t', ht', hq'⟩ := hG f c' s1 H1 Q (fun E H' Q' => t j E ((l j).sl σ) H' Q') (fun W pn xe E p1 p2 tk hW => LamJ.acts (L j lt) nd I2 at_ hNg hva hd hcd hr' W pn xe E p1 p2 tk hW) at_.2.1 tt
      exact ⟨t', PSs.nox ht', hq'⟩
    refine wpAny_call (codeAny_mono rc fun r s2 hq => ?_)
    cases r with
    | error er => exact False.elim hq
    | ok fl =>
      cases fl with
      | ret u => exact I1.after hq
      | next => exact False.elim hq
      | brk => exact False.elim hq
      | cont => exact False.elim hq
end LamX

set_option maxRecDepth 100000
set_option maxHeartbeats 4000000
/-! x = [lambda .., ..] and x.append(lambda ..): the block behind them keeps the lambdas as pins. -/
namespace LamX
open PySem PySem.Spec PyProof.Rows L2
inductive All2 {α β : Type} (R : α → β → Prop) : List α → List β → Prop
  | nil : All2 R [] []
  | cons {a b l m} : R a b → All2 R l m → All2 R (a :: l) (b :: m)
theorem All2.imp {α β : Type} {R S : α → β → Prop} (h : ∀ a b, R a b → S a b) : ∀ {l : List α} {m : List β}, All2 R l m → All2 S l m
  | _, _, .nil => .nil
  | _, _, .cons a b => .cons (h _ _ a) (b.imp h)
theorem All2.len {α β : Type} {R : α → β → Prop} : ∀ {l : List α} {m : List β}, All2 R l m → l.length = m.length
  | _, _, .nil => rfl
  | _, _, .cons _ b => by simp [b.len]
/-- kept at f, among the pins M -/
def LamJ.In (X : Cx) (M : List (Addr × Obj)) (j : LamJ) (f c' : Addr) (H : Hp) : Prop := f ∉ frs X.stack ∧ H c' = some (CodeO c' (X.env.qual ++ "<lambda>")) ∧ (match j.dflt with
  | none => ∃ pm ctv, (f, lamO X j.params j.body j.scope pm c' ctv) ∈ M
  | some (_, _, z) => ∃ Td doc pm ctv, (f, lamD X j.params j.body j.scope (.ref Td) doc pm c' ctv) ∈ M ∧ H Td = some (.tup [.int z]))
theorem LamJ.In.mono {X : Cx} {M M' : List (Addr × Obj)} {j : LamJ} {f c' : Addr} {H H' : Hp} (h : j.In X M f c' H) (m : ∀ q ∈ M, q ∈ M') (e : ExtN H H') : j.In X M' f c' H' := by
  obtain ⟨params, body, scope, dflt⟩ := j
  obtain ⟨h1, h2, h3⟩ := h
  refine ⟨h1, e _ _ h2 codeO_ne, ?_⟩
  match dflt, h3 with
  | none, ⟨pm, ctv, z⟩ => exact ⟨pm, ctv, m _ z⟩
  | some (_, _, z), ⟨Td, doc, pm, ctv, z1, z2⟩ => exact ⟨Td, doc, pm, ctv, m _ z1, e _ _ z2 (fun _ w => by cases w)⟩
/-- the expression is this lambda -/
structure LamE (X : Cx) (e : Expr) (j : LamJ) : Prop where
  text : ∃ pos, e = .Lambda j.params j.body j.scope pos
  dflt : match j.dflt with
    | none => defaultsOf j.params X.env = ([], [])
    | some (_, _, z) => ∃ k p, j.params.defaults = [.Constant (.int z) k p] ∧ j.params.kw_defaults = []
  up : ∀ y ∈ j.scope.names, y.2 = .free → X.env.scope.names.lookup y.1 = some .cell ∨ X.env.scope.names.lookup y.1 = some .free
section
variable {X : Cx} {T : List (Addr × Str)} {c P : Addr}
theorem lam_any {pins : List (Addr × Obj)} {σ : L2.St} {H : Hp} {s : Shared} {e : Expr} {j : LamJ} {Q : Value → Shared → Prop} (L : LamE X e j) (I : Inv X pins σ H s) (TB : TabB X.base X.mg c P) (hcode : X.env.code = .ref c)
    (hm : (P, X.env.qual ++ "<lambda>") ∈ T) (hu : ∀ p ∈ T, p.1 = P → p.2 = X.env.qual ++ "<lambda>") (t : Tabs T H)
    (k : ∀ (f c' : Addr) (o : Obj) (H1 : Hp) (s' : Shared), Inv X ((f, o) :: pins) σ H1 s' → ExtN H H1 → Tabs T H1 → j.In X [(f, o)] f c' H1 → Q (.ref f) s') :
    wpAny (model X.prog X.w) X.A (eval e X.env) Q X.xe s := by
  obtain ⟨params, body, scope, dflt⟩ := j
  obtain ⟨⟨pos, rfl⟩, hd, up⟩ := L
  have up' : ∀ y ∈ scope.names, y.2 = .free → ∃ c, X.env.cells.lookup y.1 = some c := fun y hy e => (up y hy e).elim (fun z => I.ok.has _ (.inl z)) (fun z => I.ok.has _ (.inr z))
  match dflt, hd with
  | none, hd => exact lam_pin I TB hcode hm hu t hd up' fun f c' pm ctv H1 s' I1 ex t1 hc nf => k f c' _ H1 s' I1 ex t1 ⟨nf, hc, pm, ctv, List.mem_singleton.mpr rfl⟩
  | some (q, i, z), ⟨kk, p, hd1, hd2⟩ => exact lam_pin1 I TB hcode hm hu t hd1 hd2 up' rfl fun f c' Td doc pm ctv H1 s' I1 ex t1 hc hT nf => k f c' _ H1 s' I1 ex t1 ⟨nf, hc, Td, doc, pm, ctv, List.mem_singleton.mpr rfl, hT⟩
/-- several, kept one by one -/
def Kept (X : Cx) (M : List (Addr × Obj)) (H : Hp) (fs : List (Addr × Addr)) (js : List LamJ) : Prop := All2 (fun p (j : LamJ) => j.In X M p.1 p.2 H) fs js
theorem Kept.mono {M M' : List (Addr × Obj)} {H H' : Hp} {fs : List (Addr × Addr)} {js : List LamJ} (h : Kept X M H fs js) (m : ∀ q ∈ M, q ∈ M') (e : ExtN H H') : Kept X M' H' fs js := All2.imp (fun _ _ z => z.mono m e) h
theorem lam_list {E : List Expr} {js : List LamJ} (hE : All2 (LamE X) E js) (TB : TabB X.base X.mg c P) (hcode : X.env.code = .ref c) (hm : (P, X.env.qual ++ "<lambda>") ∈ T) (hu : ∀ p ∈ T, p.1 = P → p.2 = X.env.qual ++ "<lambda>") (pos : Pos) :
    ∀ {pins : List (Addr × Obj)} {σ : L2.St} {H : Hp} {s : Shared} {Q : List Value → Shared → Prop}, Inv X pins σ H s → Tabs T H →
    (∀ (fs : List (Addr × Addr)) (M : List (Addr × Obj)) (H1 : Hp) (s' : Shared), Inv X (M ++ pins) σ H1 s' → ExtN H H1 → Tabs T H1 → Kept X M H1 fs js → Q (fs.map fun p => .ref p.1) s') →
    wpAny (model X.prog X.w) X.A (spliced (backTo pos (starEach E X.env))) Q X.xe s := by
  induction hE with
  | nil =>
    intro pins σ H s Q I t k
    exact Calls.spliced_nil (k [] [] H s I (ExtN.refl H) t .nil)
  | @cons e j es js hj hjs ih =>
    intro pins σ H s Q I t k
    have st : starEach (e :: es) X.env = (false, eval e X.env) :: starEach es X.env := by
      obtain ⟨⟨p, rfl⟩, _, _⟩ := hj
      rfl
    rw [st]
    show wpAny _ _ (spliced ((false, eval e X.env) :: backTo pos (starEach es X.env))) _ _ s
    refine Calls.spliced_cons (lam_any hj I TB hcode hm hu t fun f c' o H1 s1 I1 ex t1 h1 => ?_)
    refine ih I1 t1 fun fs M H2 s2 I2 ex2 t2 h2 => ?_
    have eq : M ++ (f, o) :: pins = (M ++ [(f, o)]) ++ pins := by simp
    rw [eq] at I2
    exact k ((f, c') :: fs) (M ++ [(f, o)]) H2 s2 I2 (ex.trans ex2) t2 (.cons (h1.mono (fun q z => List.mem_append_right _ z) ex2) (h2.mono (fun q z => List.mem_append_left _ z) (ExtN.refl _)))
theorem inv_drop {pins more : List (Addr × Obj)} {σ : L2.St} {H : Hp} {s : Shared} (I : Inv X (more ++ pins) σ H s) : Inv X pins σ H s :=
  ⟨I.ok, I.os, I.bare, I.base, I.loc, I.cell, I.free, I.freeC, fun p hp => I.pin p (by
    rcases List.mem_append.mp hp with z | z
    · exact List.mem_append_left _ z
    · exact List.mem_append_right _ (List.mem_append_right _ z)), I.hok, I.len⟩
/-- what a block tells with the pins of before -/
theorem sp_drop {pins more : List (Addr × Obj)} {D : Ends} {xe : Value → Shared → Prop} {pn' : List (Addr × Obj)} {fl : Flow} {s' : Shared} (ok : X.Ok) (h : SP (X.tr (X.pn ++ (more ++ pins)) xe) pn' D fl s') : SP X pins D fl s' := by
  cases fl with
  | next => obtain ⟨σ', H', I, q⟩ := h; exact ⟨σ', H', inv_drop (I.ofTry ok), q⟩
  | brk => obtain ⟨σ', H', I, q⟩ := h; exact ⟨σ', H', inv_drop (I.ofTry ok), q⟩
  | cont => obtain ⟨σ', H', I, q⟩ := h; exact ⟨σ', H', inv_drop (I.ofTry ok), q⟩
  | ret u => obtain ⟨v, σ', H', I, r, q⟩ := h; exact ⟨v, σ', H', inv_drop (I.ofTry ok), r, q⟩
/-- x = [lambda .., ..] and the block behind it -/
def tLams (X : Cx) (T : List (Addr × Str)) (i : Nat) (js : List LamJ) (u : List (Addr × Obj) → TS) : TS := fun D σ H => Tabs T H ∧ ∀ (pn : List (Addr × Obj)) (fs : List (Addr × Addr)) (H1 : Hp), (∀ q ∈ X.pn, q ∈ pn) → ExtN H H1 → Tabs T H1 → Kept X pn H1 fs js →
  ∀ l, H1 l = none → u pn D (σ.set i (some (.ref l))) (upd H1 l (.lst (fs.map fun p => .ref p.1)))
theorem pss_lams {E : List Expr} {js : List LamJ} {i : Nat} {x : Str} {rest : List Stmt} {u : List (Addr × Obj) → TS} {px lp pos : Pos} (hE : All2 (LamE X) E js) (TB : TabB X.base X.mg c P) (hcode : X.env.code = .ref c)
    (hm : (P, X.env.qual ++ "<lambda>") ∈ T) (hu : ∀ p ∈ T, p.1 = P → p.2 = X.env.qual ++ "<lambda>") (nd : X.N.Nodup) (hi : X.N[i]? = some x) (hx : Loc X.env.scope x) (hz : E.length ≤ sizeLine)
    (hr : ∀ pn : List (Addr × Obj), PSs (X.tr pn X.xe) rest (u pn)) (hs : swapsWith (.List E lp) (some (.Name x px)) pos.line X.env = pure false := by rfl)
    (hf : X.fn x = true ∨ X.env.scope.names.lookup x = some .local := by first | exact .inl rfl | exact .inr rfl | assumption) :
    PSs X (.Assign [.Name x px] (.List E lp) pos :: rest) (tLams X T i js u) := by
  refine ⟨fun pins s σ H D I h => ?_⟩
  obtain ⟨t, h⟩ := h
  refine wpAny_execs_cons (wpAny_Assign_Name (wpAny_List_spliced (lam_list hE TB hcode hm hu lp I t fun fs M H1 s1 I1 ex t1 hk => ⟨?_, ?_⟩)) hs)
  · have e1 := All2.len hk
    have e2 := All2.len hE
    rw [List.length_map, e1, ← e2]
    exact hz
  have ln : H1 s1.heap.objs.size = none := I1.hok.fresh (Nat.le_refl _)
  have I2 : Inv X (M ++ pins) σ (upd H1 s1.heap.objs.size (.lst (fs.map fun p => V.ref p.1))) { s1 with heap := s1.heap.push { cls := .type "list", data := .seq (fs.map fun p => Value.ref p.1).toArray } } := by
    refine I1.laid (t' := s1.toks) (fun b v e => Heap.get?_push_of_some _ e) (Nat.le_refl _) ⟨?_, fs.map (fun p => Value.ref p.1), 0, ?_, Heap.get?_push_size _ rfl⟩
    · have e1 := All2.len hk
      have e2 := All2.len hE
      rw [List.length_map, e1, ← e2]
      exact hz
    · clear hk
      induction fs with
      | nil => exact .nil
      | cons p fs ih => exact .cons rfl ih
  refine store_ok (v := V.ref s1.heap.objs.size) I2 nd hi hx rfl (fun s2 I3 => ?_) hf
  have I4 := I3.toTry X.xe
  have run := (hr (X.pn ++ (M ++ pins))).run [] s2 _ _ D I4 (h _ fs H1 (fun q z => List.mem_append_left _ z) ex t1 (hk.mono (fun q z => List.mem_append_right _ (List.mem_append_left _ z)) (ExtN.refl _)) _ ln)
  exact wpAny_mono run (fun fl s3 z => sp_drop I.ok z) fun e s3 z => z
/-- x.append(lambda ..) and the block behind it -/
def tLamApp (X : Cx) (T : List (Addr × Str)) (i : Nat) (j : LamJ) (u : List (Addr × Obj) → TS) : TS := fun D σ H => ∃ l xs, σ[i]? = some (some (.ref l)) ∧ H l = some (.lst xs) ∧ xs.length < sizeLine ∧ Tabs T H ∧ ∀ (pn : List (Addr × Obj)) (f c' : Addr) (H1 : Hp), (∀ q ∈ X.pn, q ∈ pn) → ExtN H H1 → Tabs T H1 → j.In X pn f c' H1 →
  u pn D σ (upd H1 l (.lst (xs ++ [.ref f])))
theorem pss_lamApp {e : Expr} {j : LamJ} {i : Nat} {x : Str} {rest : List Stmt} {u : List (Addr × Obj) → TS} {px apos cpos epos : Pos} (hj : LamE X e j) (TB : TabB X.base X.mg c P) (hcode : X.env.code = .ref c)
    (hm : (P, X.env.qual ++ "<lambda>") ∈ T) (hu : ∀ p ∈ T, p.1 = P → p.2 = X.env.qual ++ "<lambda>") (hi : X.N[i]? = some x) (hv : Vis X.env.scope x)
    (hr : ∀ pn : List (Addr × Obj), PSs (X.tr pn X.xe) rest (u pn))
    (hst : starEach [e] X.env = (false, eval e X.env) :: starEach [] X.env := by rfl) (hd : (x == ("__debug__" : Str)) = false := by decide) (hcd : (x == ("__classdict__" : Str)) = false := by decide)
    (hbase : attributeBase (.Name x px) "append" X.env (eval (.Name x px) X.env) = eval (.Name x px) X.env := by rfl)
    (hfew : ((backTo cpos (starEach [e] X.env)).all (fun x => !x.1) && (backToKw cpos (keywordEach [] X.env)).all (fun x => x.1.isSome)
      && decide (([e] : List Expr).length + ([] : List Keyword).length + (if ([] : List Keyword).isEmpty then 0 else 1) < 30)) = true := by rfl)
    (hline : (apos.endLine == cpos.line) = true := by rfl) (hplain : (backTo cpos (starEach [] X.env)).any (·.1) = false := by rfl)
    (hsw : swapsWith (.Call (.Attribute (.Name x px) "append" apos) [e] [] cpos) none epos.line X.env = pure false := by rfl) :
    PSs X (.Expr (.Call (.Attribute (.Name x px) "append" apos) [e] [] cpos) epos :: rest) (tLamApp X T i j u) := by
  refine ⟨fun pins s σ H D I h => ?_⟩
  obtain ⟨l, xs, hs, hl, hz, t, h⟩ := h
  refine wpAny_execs_cons (wpAny_Expr_any (wpAny_Call_method_late hbase hfew hline rfl (thn ((pe_var (pos := px) (i := i) hi hv hd hcd).run pins s σ H (fun v H1 => v = .ref l ∧ H1 = H) I ⟨.ref l, hs, rfl, rfl⟩) fun v s1 hh => ?_)) I.quiet hsw)
  obtain ⟨x1, H1, I1, r1, rfl, rfl⟩ := hh
  obtain ⟨h1, h2⟩ := tyV_is (T := "list") I1 r1 (.inl ⟨rfl, xs, SqL.of hl⟩)
  refine ⟨"list", "list.append", PySem.F.plainAttrs_list, PySem.F.slot_list_append, PySem.F.type_list_append, h1, h2, ?_⟩
  rw [hst]
  refine Calls.callWith_builtin (by show (false || (backTo cpos (starEach [] X.env)).any (·.1)) = false; rw [hplain]; rfl) (Calls.evalArgs_plain ?_)
  refine Calls.spliced_cons (lam_any hj I1 TB hcode hm hu t fun f c' o H2 s2 I2 ex t2 h2' => ?_)
  refine Calls.spliced_nil ?_
  have hl2 : H2 l = some (.lst xs) := ex _ _ hl (fun _ z => by cases z)
  refine thn ((mt_append (X := X)) ((f, o) :: pins) s2 σ H2 (.ref l) [.ref f] v [.ref f] (fun _ H' => H' = upd H2 l (.lst (xs ++ [.ref f]))) I2 r1 (.cons rfl .nil) ⟨l, xs, .ref f, rfl, rfl, hl2, hz, rfl⟩) fun w s3 hw => ?_
  obtain ⟨x3, H3, I3, r3, rfl⟩ := hw
  have I4 := I3.toTry X.xe
  have mem : (f, o) ∈ X.pn ++ (f, o) :: pins := List.mem_append_right _ (List.mem_cons_self ..)
  have run := (hr (X.pn ++ ((f, o) :: pins))).run [] s3 _ _ D I4 (h _ f c' H2 (fun q z => List.mem_append_left _ z) ex t2 (h2'.mono (fun q z => by rw [List.mem_singleton.mp z]; exact mem) (ExtN.refl _)))
  exact wpAny_mono run (fun fl s4 z => sp_drop (more := [(f, o)]) I.ok z) fun e s4 z => z
end
end LamX

set_option maxRecDepth 100000
set_option maxHeartbeats 4000000
/-! [said(ask) for ask in asks], asks a list of kept lambdas, each told as a new tuple. -/
namespace LamX
open PySem PySem.Spec PyProof.Rows L2
theorem LamJ.At.same {X : Cx} {j : LamJ} {p c' : Addr} {G G' : Hp} (h : j.At X p c' G) (e : ∀ b o, G b = some o → (∀ ps, o ≠ .tbl ps) → (∀ xs, o ≠ .lst xs) → G' b = some o) : j.At X p c' G' := by
  obtain ⟨params, body, scope, dflt⟩ := j
  obtain ⟨h1, h2, h3⟩ := h
  refine ⟨h1, e _ _ h2 codeO_ne (fun xs z => ?_), ?_⟩
  · unfold CodeO at z
    cases z
  match dflt, h3 with
  | none, h3 => exact h3
  | some (_, _, z), ⟨Td, doc, pm, ctv, z1, z2⟩ => exact ⟨Td, doc, pm, ctv, z1, e _ _ z2 (fun _ w => by cases w) (fun _ w => by cases w)⟩
theorem asks {K : PySem.W.Frag} {X : Cx} {jX : Nat → LamJ} {tX : Nat → XK → TE} {TT : (XK → Hp → VK → Prop) → Hp → VK → Prop} {te0 : TE} {iv n : Nat} {σ : L2.St} {G : Hp} {l : Addr} {qs : List (Addr × Addr)} {W : Nat → List V} {Q : VK}
    (h0 : ∀ R : VK, R (.ref l) G → te0 σ G R) (hl : G l = some (.lst (qs.map fun q => V.ref q.1))) (hn : qs.length = n) (n1 : n < 1000) (at_ : ∀ j q, qs[j]? = some q → (jX j).At X q.1 q.2 G)
    (hw : ∀ x : V, wipe ((wipe σ [iv]).set iv (some x)) [iv] = wipe σ [iv]) (hv : ∀ x : V, ((wipe σ [iv]).set iv (some x))[iv]? = some (some x))
    (turn : ∀ j < n, ∀ (G' : Hp) (Q' : VK), Same G G' → (∀ (H' : Hp) (t : Addr), Same G' H' → H' t = some (.tup (W j)) → Q' (.ref t) H') → TT (fun E' H' Q' => tX j E' ((jX j).sl σ) H' Q') G' Q')
    (k : ∀ (D : Addr) (ts : List Addr) (G' : Hp), Same G G' → G' D = some (.lst (ts.map V.ref)) → ts.length = n → (∀ (j : Nat) (t : Addr), ts[j]? = some t → G' t = some (.tup (W j))) → Q (.ref D) G') :
    tLc (iList K te0) (gName iv) tYes (tPinH X jX n tX TT (tVar iv) σ) [iv] σ G Q := by
  have big : 1000 < sizeLine := by decide
  refine h0 _ ⟨l, rfl, ⟨_, SqL.of hl⟩, fun D nD => ?_⟩
  refine lc_list (K := K) (xs := qs.map fun q => V.ref q.1) (fun i G2 => Same G G2 ∧ ∃ ts : List Addr, G2 D = some (.lst (ts.map V.ref)) ∧ ts.length = i ∧ ∀ (j : Nat) (t : Addr), ts[j]? = some t → G2 t = some (.tup (W j)))
    ⟨Same.new nD, [], upd_same, rfl, fun j t h => by simp at h⟩ (fun i G2 _ g => SqL.of (g.1 _ _ hl)) (fun i x G2 hx g => ?_) (fun G2 g => ?_)
  · obtain ⟨sG, ts, hD, lt, ht⟩ := g
    rw [List.getElem?_map] at hx
    obtain ⟨q, hq, rfl⟩ := Option.map_eq_some_iff.mp hx
    have li := (List.getElem?_eq_some_iff.mp hq).1
    refine ⟨hw _, ?_⟩
    refine ⟨_, hv _, i, q.1, q.2, by omega, rfl, (at_ i q hq).same (fun b o e _ _ => sG _ _ e), turn i (by omega) G2 _ sG fun G1 r S e => ?_⟩
    have hD1 := S _ _ hD
    refine ⟨_, hD1, by rw [List.length_map]; omega, ?_, ts ++ [r], ?_, by rw [List.length_append, lt]; rfl, fun j t hj => ?_⟩
    · exact fun b o e => by
        rw [upd_ne (ne_of_none e nD)]
        exact (sG.trans S) b o e
    · rw [upd_same, List.map_append]
      rfl
    · have off : ∀ {t u}, G1 t = some (.tup u) → upd G1 D (.lst (ts.map V.ref ++ [.ref r])) t = some (.tup u) := fun h => (upd_ne (fun z => by rw [z, hD1] at h; cases h)).trans h
      by_cases lj : j < ts.length
      · rw [List.getElem?_append_left lj] at hj
        exact off (S _ _ (ht j t hj))
      · have ej : j = ts.length := by
          have := (List.getElem?_eq_some_iff.mp hj).1
          rw [List.length_append, List.length_singleton] at this
          omega
        rw [ej, List.getElem?_append_right (Nat.le_refl _), Nat.sub_self] at hj
        cases hj
        rw [ej, lt]
        exact off e
  · obtain ⟨sG, ts, hD, lt, ht⟩ := g
    rw [List.length_map] at lt
    exact k D ts G2 sG hD (by omega) ht
end LamX

set_option maxRecDepth 100000
set_option maxHeartbeats 4000000
/-! [said(ask) for ask in asks], asks a list of kept lambdas, of each answer something told. -/
namespace LamX
open PySem PySem.Spec PyProof.Rows L2
/-- all but tables and lists -/
def Fx (H H' : Hp) : Prop := ∀ b o, H b = some o → (∀ ps, o ≠ .tbl ps) → (∀ xs, o ≠ .lst xs) → H' b = some o
theorem Fx.of {H H' : Hp} (s : Same H H') : Fx H H' := fun b o e _ _ => s b o e
theorem Fx.ext {H H' : Hp} (s : ExtN H H') : Fx H H' := fun b o e t _ => s b o e t
theorem Fx.trans {H H1 H2 : Hp} (a : Fx H H1) (b : Fx H1 H2) : Fx H H2 := fun c o e t l => b c o (a c o e t l) t l
theorem asksP {K : PySem.W.Frag} {X : Cx} {jX : Nat → LamJ} {tX : Nat → XK → TE} {TT : (XK → Hp → VK → Prop) → Hp → VK → Prop} {te0 : TE} {iv n : Nat} {σ : L2.St} {G : Hp} {l : Addr} {qs : List (Addr × Addr)} {PP : Nat → V → Hp → Prop} {Q : VK}
    (st : ∀ (j : Nat) (x : V) (G G' : Hp), Fx G G' → PP j x G → PP j x G')
    (h0 : ∀ R : VK, R (.ref l) G → te0 σ G R) (hl : G l = some (.lst (qs.map fun q => V.ref q.1))) (hn : qs.length = n) (n1 : n < 1000) (at_ : ∀ j q, qs[j]? = some q → (jX j).At X q.1 q.2 G)
    (hw : ∀ x : V, wipe ((wipe σ [iv]).set iv (some x)) [iv] = wipe σ [iv]) (hv : ∀ x : V, ((wipe σ [iv]).set iv (some x))[iv]? = some (some x))
    (turn : ∀ j < n, ∀ (G' : Hp) (Q' : VK), Same G G' → (∀ (H' : Hp) (x : V), Same G' H' → PP j x H' → Q' x H') → TT (fun E' H' Q' => tX j E' ((jX j).sl σ) H' Q') G' Q')
    (k : ∀ (D : Addr) (xs : List V) (G' : Hp), Same G G' → G' D = some (.lst xs) → xs.length = n → (∀ (j : Nat) (x : V), xs[j]? = some x → PP j x G') → Q (.ref D) G') :
    tLc (iList K te0) (gName iv) tYes (tPinH X jX n tX TT (tVar iv) σ) [iv] σ G Q := by
  have big : 1000 < sizeLine := by decide
  refine h0 _ ⟨l, rfl, ⟨_, SqL.of hl⟩, fun D nD => ?_⟩
  refine lc_list (K := K) (xs := qs.map fun q => V.ref q.1) (fun i G2 => Same G G2 ∧ ∃ xs : List V, G2 D = some (.lst xs) ∧ xs.length = i ∧ ∀ (j : Nat) (x : V), xs[j]? = some x → PP j x G2)
    ⟨Same.new nD, [], upd_same, rfl, fun j t h => by simp at h⟩ (fun i G2 _ g => SqL.of (g.1 _ _ hl)) (fun i x G2 hx g => ?_) (fun G2 g => ?_)
  · obtain ⟨sG, xs, hD, lt, ht⟩ := g
    rw [List.getElem?_map] at hx
    obtain ⟨q, hq, rfl⟩ := Option.map_eq_some_iff.mp hx
    have li := (List.getElem?_eq_some_iff.mp hq).1
    refine ⟨hw _, ?_⟩
    refine ⟨_, hv _, i, q.1, q.2, by omega, rfl, (at_ i q hq).same (fun b o e _ _ => sG _ _ e), turn i (by omega) G2 _ sG fun G1 r S e => ?_⟩
    have hD1 := S _ _ hD
    have fx : Fx G1 (upd G1 D (.lst (xs ++ [r]))) := fun b o e _ n => (upd_ne (fun z => by rw [z, hD1] at e; exact n _ (Option.some.inj e).symm)).trans e
    refine ⟨_, hD1, by omega, ?_, xs ++ [r], upd_same, by rw [List.length_append, lt]; rfl, fun j t hj => ?_⟩
    · exact fun b o e => by
        rw [upd_ne (ne_of_none e nD)]
        exact (sG.trans S) b o e
    · by_cases lj : j < xs.length
      · rw [List.getElem?_append_left lj] at hj
        exact st _ _ _ _ ((Fx.of S).trans fx) (ht j t hj)
      · have ej : j = xs.length := by
          have := (List.getElem?_eq_some_iff.mp hj).1
          rw [List.length_append, List.length_singleton] at this
          omega
        rw [ej, List.getElem?_append_right (Nat.le_refl _), Nat.sub_self] at hj
        cases hj
        rw [ej, lt]
        exact st _ _ _ _ fx e
  · obtain ⟨sG, xs, hD, lt, ht⟩ := g
    rw [List.length_map] at lt
    exact k D xs G2 sG hD (by omega) ht
end LamX

set_option maxRecDepth 100000
set_option maxHeartbeats 4000000
namespace K09
open PySem PySem.Spec PyProof.Rows L2 He VH RZ
open LamX (Fx)
/-! what stands through lists and tables; the six drawn parts -/
theorem sqT_fx {K : PySem.W.Frag} {H H' : Hp} {a : Addr} {xs : List V} (h : SqT K H a xs) (e : Fx H H') : SqT K H' a xs := by
  rcases h with (h | ⟨o, h⟩) | h
  · exact .inl (.inl (e _ _ h (fun _ z => by cases z) (fun _ z => by cases z)))
  · exact .inl (.inr ⟨o, e _ _ h (fun _ z => by cases z) (fun _ z => by cases z)⟩)
  · exact .inr h
theorem fx_tup {H H' : Hp} {a : Addr} {xs : List V} (e : Fx H H') (h : H a = some (.tup xs)) : H' a = some (.tup xs) := e _ _ h (fun _ z => by cases z) (fun _ z => by cases z)
theorem fx_ins {H H' : Hp} {a C dx : Addr} {fs : List (Str × V)} (e : Fx H H') (h : H a = some (.ins C dx fs)) : H' a = some (.ins C dx fs) := e _ _ h (fun _ z => by cases z) (fun _ z => by cases z)
theorem WrX.fx {K : PySem.W.Frag} {H H' : Hp} {x : V} {d : Str × List Tr} (e : Fx H H') (h : WrX K H x d) : WrX K H' x d := by
  obtain ⟨a, nb, ex, ⟨xs, ⟨dx, t, h1, h2⟩, h3⟩, dp, nl⟩ := h
  exact ⟨a, nb, ex, ⟨xs, ⟨dx, t, fx_ins e h1, fx_tup e h2⟩, h3.fx e (by simpa [Tr.noL] using nl)⟩, dp, nl⟩
theorem PhX.fx {K : PySem.W.Frag} {H H' : Hp} {x : V} {d : Ph} (e : Fx H H') (h : PhX K H x d) : PhX K H' x d := by
  obtain ⟨a, ex, dx, t1, t2, t3, h1, a1, a2, a3⟩ := h
  exact ⟨a, ex, dx, t1, t2, t3, fx_ins e h1, sqT_fx a1 e, sqT_fx a2 e, sqT_fx a3 e⟩
theorem FlX.fx {K : PySem.W.Frag} {H H' : Hp} {x : V} {d : Fl × Tr} (e : Fx H H') (h : FlX K H x d) : FlX K H' x d := by
  obtain ⟨a, p, ex, ⟨dx, h1⟩, h2, dp, nl⟩ := h
  exact ⟨a, p, ex, ⟨dx, fx_ins e h1⟩, h2.fx e nl, dp, nl⟩
theorem WyAt.fx {K : PySem.W.Frag} {H H' : Hp} {x : V} {r : Int × Int} (h : WyAt K H x r) (e : Fx H H') : WyAt K H' x r := by
  obtain ⟨p, ex, h⟩ := h
  exact ⟨p, ex, sqT_fx h e⟩
theorem RoAt.fx {K : PySem.W.Frag} {H H' : Hp} {a fa : Addr} {ws ps bs : List V} {d : Ro} (h : RoAt K H a ws ps bs fa d) (e : Fx H H') : RoAt K H' a ws ps bs fa d := by
  obtain ⟨dx, t1, t2, t3, h, a1, a2, a3⟩ := h
  exact ⟨dx, t1, t2, t3, fx_ins e h, sqT_fx a1 e, sqT_fx a2 e, sqT_fx a3 e⟩
theorem RoX.fx {K : PySem.W.Frag} {H H' : Hp} {a : Addr} {ws ps bs : List V} {fa : Addr} {d : Rd} (h : RoX K H a ws ps bs fa d) (s : Fx H H') : RoX K H' a ws ps bs fa d :=
  ⟨h.r.fx s, h.w.same fun _ _ h => h.fx s, h.f.fx s, h.p.same fun _ _ h => h.fx s, h.b.same fun _ _ h => h.fx s⟩
theorem but_fx {a : Addr} {H H' : Hp} (w : Well H a) (b : But a H H') : Fx H H' := fun c o e _ l => b c o (fun z => by
  obtain ⟨x, y, v, w⟩ := w
  rw [z, w] at e
  exact l _ (Option.some.inj e).symm) e
/-! steps that fit have trees of tuples and texts -/
theorem noLs_strs : ∀ ws : List Str, Tr.noLs (ws.map Tr.str) = true
  | [] => rfl
  | _ :: ws => noLs_strs ws
theorem noLs_app : ∀ {ts us : List Tr}, Tr.noLs ts = true → Tr.noLs us = true → Tr.noLs (ts ++ us) = true
  | [], _, _, h => h
  | t :: ts, us, h, g => by
    have h : (Tr.noL t && Tr.noLs ts) = true := h
    rw [Bool.and_eq_true] at h
    show (Tr.noL t && Tr.noLs (ts ++ us)) = true
    rw [h.1, noLs_app h.2 g]
    rfl
theorem deps_strs : ∀ ws : List Str, Tr.deps (ws.map Tr.str) = 0
  | [] => rfl
  | _ :: ws => by
    show max 0 (Tr.deps (ws.map Tr.str)) = 0
    rw [deps_strs ws]
    rfl
theorem deps_app : ∀ {ts us : List Tr}, Tr.deps (ts ++ us) = max (Tr.deps ts) (Tr.deps us)
  | [], us => by
    show Tr.deps us = max 0 (Tr.deps us)
    omega
  | t :: ts, us => by
    show max t.dep (Tr.deps (ts ++ us)) = max (max t.dep (Tr.deps ts)) (Tr.deps us)
    rw [deps_app]
    omega
theorem st_noL (s : Stp) : s.tr.noL = true ∧ s.tr.dep ≤ 2 := by
  unfold Stp.tr
  split
  · refine ⟨?_, ?_⟩
    · show Tr.noLs (.str "insert" :: s.mid.map Tr.str) = true
      exact noLs_strs ("insert" :: s.mid)
    · show Tr.deps (.str "insert" :: s.mid.map Tr.str) + 1 ≤ 2
      rw [show (Tr.str "insert" :: s.mid.map Tr.str) = (("insert" : Str) :: s.mid).map Tr.str from rfl, deps_strs]
      omega
  · refine ⟨?_, ?_⟩
    · show Tr.noLs (.str s.w :: (s.mid.map Tr.str ++ [.tup (s.cs.map Tr.str)])) = true
      refine noLs_app (ts := (s.w :: s.mid).map Tr.str) (noLs_strs _) ?_
      show (Tr.noLs (s.cs.map Tr.str) && true) = true
      rw [noLs_strs]
      rfl
    · show Tr.deps (.str s.w :: (s.mid.map Tr.str ++ [.tup (s.cs.map Tr.str)])) + 1 ≤ 2
      have : Tr.deps ((s.w :: s.mid).map Tr.str ++ [.tup (s.cs.map Tr.str)]) = 1 := by
        rw [deps_app, deps_strs]
        show max 0 (max (Tr.deps (s.cs.map Tr.str) + 1) 0) = 1
        rw [deps_strs]
        rfl
      have e : Tr.deps (.str s.w :: (s.mid.map Tr.str ++ [.tup (s.cs.map Tr.str)])) = 1 := this
      omega
theorem sd_noL {ds : List Sd} (h : bad ds = none) : ∀ d ∈ ds, d.tr.noL = true ∧ d.tr.dep ≤ 2 := fun d hd => by
  obtain ⟨k, l, e⟩ := List.mem_iff_getElem.mp hd
  unfold bad at h
  rw [List.find?_eq_none] at h
  have f := h k (List.mem_range.mpr l)
  have f : fits ds k = true := by simpa using f
  unfold fits at f
  rw [List.getElem?_eq_getElem l, e] at f
  match d, f with
  | .read, _ => exact ⟨rfl, Nat.le_of_ble_eq_true rfl⟩
  | .st s, _ => exact st_noL s
theorem sds_noL : ∀ {ds : List Sd}, (∀ d ∈ ds, d.tr.noL = true ∧ d.tr.dep ≤ 2) → Tr.noLs (ds.map Sd.tr) = true ∧ Tr.deps (ds.map Sd.tr) ≤ 2
  | [], _ => ⟨rfl, Nat.zero_le _⟩
  | d :: ds, h => by
    have ih := sds_noL (ds := ds) fun e he => h e (List.mem_cons_of_mem _ he)
    have h0 := h d (List.mem_cons_self ..)
    refine ⟨?_, ?_⟩
    · show (d.tr.noL && Tr.noLs (ds.map Sd.tr)) = true
      rw [h0.1, ih.1]
      rfl
    · show max d.tr.dep (Tr.deps (ds.map Sd.tr)) ≤ 2
      omega
theorem SdL.ats {K : PySem.W.Frag} {H : Hp} : ∀ {xs : List V} {ds : List Sd}, SdL K H xs ds → Ats K H xs (ds.map Sd.tr)
  | _, _, .nil => .nil
  | _, _, .cons h hs => .cons h.at hs.ats
theorem wrX_of {K : PySem.W.Frag} {H : Hp} {c : Addr} {z : Str} {xs : List V} {ds : List Sd} (wr : WrAt K H c z xs (needs ds)) (sd : SdL K H xs ds) (hb : bad ds = none) : WrX K H (.ref c) (z, ds.map Sd.tr) := by
  obtain ⟨n, dp⟩ := sds_noL (sd_noL hb)
  refine ⟨c, _, rfl, ⟨xs, wr, sd.ats⟩, ?_, ?_⟩
  · show Tr.deps (ds.map Sd.tr) + 1 ≤ 60
    omega
  · show Tr.noLs (ds.map Sd.tr) = true
    exact n
theorem flX_of {K : PySem.W.Frag} {H : Hp} {a : Addr} (h : FlK K H a) : ∃ d, FlX K H (.ref a) d := by
  obtain ⟨p, e, s, fl, st⟩ := h
  obtain ⟨n, dp⟩ := st_noL s
  exact ⟨(e, s.tr), a, p, rfl, fl, st.tr, by show s.tr.dep ≤ 60; omega, n⟩
end K09

set_option maxRecDepth 100000
set_option maxHeartbeats 4000000
namespace K09
open PySem PySem.Spec PyProof.Rows L2 He VH RZ
open LamX (Fx)
/-! the six drawn parts -/
/-- nothing of a well and of tables -/
def Bx (a : Addr) (H H' : Hp) : Prop := ∀ b o, b ≠ a → H b = some o → (∀ ps, o ≠ .tbl ps) → H' b = some o
theorem Bx.trans {a : Addr} {H H1 H2 : Hp} (x : Bx a H H1) (y : Bx a H1 H2) : Bx a H H2 := fun b o n h t => y b o n (x b o n h t) t
theorem Bx.but {a : Addr} {H H' : Hp} (h : But a H H') : Bx a H H' := fun b o n e _ => h b o n e
theorem Bx.same {a : Addr} {H H' : Hp} (h : Same H H') : Bx a H H' := fun b o _ e _ => h b o e
theorem Bx.ext {a : Addr} {H H' : Hp} (h : LamX.ExtN H H') : Bx a H H' := fun b o _ e t => h b o e t
theorem Bx.fx {a : Addr} {H H' : Hp} (w : Well H a) (h : Bx a H H') : Fx H H' := fun b o e t l => h b o (fun z => by
  obtain ⟨x, y, v, w⟩ := w
  rw [z, w] at e
  exact l _ (Option.some.inj e).symm) e t
theorem Bx.lst {a b : Addr} {H H' : Hp} {xs : List V} (h : Bx a H H') (n : b ≠ a) (e : H b = some (.lst xs)) : H' b = some (.lst xs) := h b _ n e (fun _ z => by cases z)
theorem FlK.fx {K : PySem.W.Frag} {H H' : Hp} {fa : Addr} (h : FlK K H fa) (x : Fx H H') : FlK K H' fa := by
  obtain ⟨p, e, st, ⟨dx, h⟩, hp⟩ := h
  exact ⟨p, e, st, ⟨dx, x _ _ h (fun _ z => by cases z) (fun _ z => by cases z)⟩, hp.same fun _ _ z => x _ _ z (fun _ z => by cases z) (fun _ z => by cases z)⟩
/-- the list of six parts at l, and what they are; p is the well -/
structure Pt (K : PySem.W.Frag) (H : Hp) (p l la fa lp lw : Addr) (ws ps bs : List V) (d : Rd) : Prop where
  hl : H l = some (.lst [.ref la, .ref fa, .ref lp, .int d.wk, .int d.hd, .ref lw])
  ha : H la = some (.lst ws)
  hp : H lp = some (.lst ps)
  hw : H lw = some (.lst bs)
  nl : l ≠ p
  na : la ≠ p
  np : lp ≠ p
  nw : lw ≠ p
  w : Each (WrX K) H ws d.ws
  f : FlX K H (.ref fa) d.fl
  p : Each (PhX K) H ps d.ds
  b : Each (WyAt K) H bs d.rs
  lw : ∀ e ∈ d.ds, e.ws.length ≤ 1000
  ok : d.ro.Ok
  nm : ∀ z ∈ d.ws.map (·.1), nameB z = true
  fs : ((d.ws.map (·.1)).map fst1).Nodup
  lb : bs.length ≤ 100
  fk : FlK K H fa
theorem Pt.bx {K : PySem.W.Frag} {H H' : Hp} {p l la fa lp lw : Addr} {ws ps bs : List V} {d : Rd} (h : Pt K H p l la fa lp lw ws ps bs d) (w : Well H p) (x : Bx p H H') : Pt K H' p l la fa lp lw ws ps bs d :=
  ⟨x.lst h.nl h.hl, x.lst h.na h.ha, x.lst h.np h.hp, x.lst h.nw h.hw, h.nl, h.na, h.np, h.nw, h.w.same fun _ _ h => h.fx (x.fx w), h.f.fx (x.fx w), h.p.same fun _ _ h => h.fx (x.fx w), h.b.same fun _ _ h => h.fx (x.fx w), h.lw, h.ok, h.nm, h.fs, h.lb, h.fk.fx (x.fx w)⟩
theorem WrX.is {K : PySem.W.Frag} {H : Hp} {x : V} {d : Str × List Tr} (h : WrX K H x d) : IsWr K H x (some d.1) := by
  obtain ⟨a, nb, e, ⟨xs, h1, _⟩, _⟩ := h
  exact ⟨a, xs, nb, e, h1⟩
theorem each_is {K : PySem.W.Frag} {H : Hp} {ws : List V} {ds : List (Str × List Tr)} (h : Each (WrX K) H ws ds) : Each (IsWr K) H ws ((ds.map (·.1)).map some) := by
  refine ⟨by rw [List.length_map, List.length_map]; exact h.1, fun i x e => ?_⟩
  obtain ⟨d, ed, hd⟩ := h.2 i x e
  refine ⟨some d.1, ?_, hd.is⟩
  rw [List.getElem?_map, List.getElem?_map, ed]
  rfl
theorem each_ph {K : PySem.W.Frag} {H : Hp} {ps : List V} {ds : List Ph} (h : Each (PhX K) H ps ds) (l : ∀ e ∈ ds, e.ws.length ≤ 1000) : Each (IsPh K) H ps (ds.map some) := by
  refine ⟨by rw [List.length_map]; exact h.1, fun i x e => ?_⟩
  obtain ⟨d, ed, a, ex, hd⟩ := h.2 i x e
  refine ⟨some d, ?_, ⟨a, ex, hd⟩, l d (List.mem_of_getElem? ed)⟩
  rw [List.getElem?_map, ed]
  rfl
theorem each_wy {K : PySem.W.Frag} {H : Hp} {bs : List V} {rs : List (Int × Int)} (h : Each (WyAt K) H bs rs) : Each (WyO K) H bs (rs.map some) := by
  refine ⟨by rw [List.length_map]; exact h.1, fun i x e => ?_⟩
  obtain ⟨r, er, hr⟩ := h.2 i x e
  refine ⟨some r, ?_, hr⟩
  rw [List.getElem?_map, er]
  rfl
abbrev sSix : Stmt := top 71
abbrev FnSix (K : PySem.W.Frag) (fd : FuncData) : Prop := FnP K "_law_parts" sSix (ga K "_law_parts") fd
theorem bSix {K : PySem.W.Frag} {fd : FuncData} (F : FnSix K fd) : Binds K fd ["_law_well_here"] [] := FunD.bindsN F fun _ _ _ _ _ _ us hl => match us, hl with | [_], _ => rfl
def spSix (K : PySem.W.Frag) : Sp := fun vs H Q _ => ∃ a : Addr, vs = [.ref a] ∧ Well H a ∧ ∀ (l la fa lp lw : Addr) (ws ps bs : List V) (d : Rd) (H' : Hp), Well H' a → But a H H' → Pt K H' a l la fa lp lw ws ps bs d → Q (.ref l) H'
theorem Each.app {α : Type} {p : Hp → V → α → Prop} {H : Hp} {xs ys : List V} {zs us : List α} (h : Each p H xs zs) (g : Each p H ys us) : Each p H (xs ++ ys) (zs ++ us) := by
  refine ⟨by rw [List.length_append, List.length_append, h.1, g.1], fun i y e => ?_⟩
  rw [List.getElem?_append] at e ⊢
  rw [← h.1]
  by_cases c : i < xs.length
  · rw [if_pos c] at e ⊢
    exact h.2 i y e
  · rw [if_neg c] at e ⊢
    exact g.2 _ y e
theorem wrx_but {K : PySem.W.Frag} {a : Addr} {H H' : Hp} {ws : List V} {ds : List (Str × List Tr)} (h : Each (WrX K) H ws ds) (w : Well H a) (e : But a H H') : Each (WrX K) H' ws ds := h.same fun _ _ h => h.fx (but_fx w e)
section
variable {P : Program} {w : World} {K : PySem.W.Frag} {mg : Str → Option Value} {base : Heap} {f : Addr} {fd : FuncData}
abbrev nSix : List Str := ["_law_well_here", "_law_able", "_law_staff", "_law_plan", "_law_ways", "_law_one_here", "_law_title", "_law_other"]
theorem scSix : FnScope nSix ["_law_well_here"] (defScope sSix) := ⟨rfl, rfl, rfl, by decide +kernel, rfl, by decide +kernel, by decide +kernel⟩
theorem ok_six (F : FnP K "_law_parts" sSix f fd) (T : Txt K mg w) (fns : Fns K) : FnOk P w K mg base (L2.CX P w) 11 f fd ["_law_well_here"] (spSix K) := by
  obtain ⟨fdD, FD⟩ := fns.f_l_draw
  obtain ⟨fdO, FO⟩ := fns.f_l_one
  obtain ⟨fdT, FT⟩ := fns.f_l_titles
  obtain ⟨fdP, FP⟩ := fns.f_l_part
  obtain ⟨fdG, FG⟩ := fns.f_l_stages
  obtain ⟨fdF, FF⟩ := fns.f_l_filled
  obtain ⟨fdW, FW⟩ := fns.f_l_writer
  obtain ⟨fdS, FS⟩ := fns.f_l_steps
  obtain ⟨fdC, FC⟩ := fns.f_l_checks
  obtain ⟨fdU, FU⟩ := fns.f_l_step
  obtain ⟨fdJ, FJ⟩ := fns.f_Phase_init
  obtain ⟨fdK, FK⟩ := fns.f_Fill_init
  have GD : FnOk P w K mg base CX0 1 (ga K "_law_draw") fdD ["_law_well_here", "_law_much"] spDraw := ok_draw FD T.g_int
  have GT : FnOk P w K mg base CX0 3 (ga K "_law_titles") fdT ["_law_well_here", "_law_many"] spTit := ok_tit FT T FD FO
  have GG : FnOk P w K mg base (L2.CX P w) 5 (ga K "_law_stages") fdG ["_law_well_here", "_law_many", "_law_able"] (spStg K) := ok_stg FG T fns FJ FD FO FT FP
  have GF : FnOk P w K mg base (L2.CX P w) 7 (ga K "_law_filled") fdF ["_law_well_here"] (spFil K) := ok_fil FF T fns FK FD FO FC
  have GW : FnOk P w K mg base (L2.CX P w) 9 (ga K "_law_writer") fdW ["_law_title", "_law_steps_here"] (spLw K) := ok_lw FW T fns
  have GS : FnOk P w K mg base CX0 4 (ga K "_law_steps") fdS ["_law_well_here"] (spSts K) := ok_sts FS T FU FD FO FC
  refine F.ok scSix (fun vs H Q E h => ?_) (fun cdv A outer s H vs Q E hr h => ?_)
  · obtain ⟨_, rfl, _⟩ := h
    rfl
  have cD : ∀ {i : Int} {p1 p2 p3 p4 : Pos} {j : Nat}, PE (cxOf (L2.CX P w) P w K mg base nSix "_law_parts" (defScope sSix) f cdv A outer s H E) (.Call (.Name "_law_draw" p1) [.Name "_law_well_here" p2, .Constant (.int i) j p3] [] p4) _ := fun {i p1 p2 p3 p4 j} =>
    pe_call GD (hr.mono (by decide)) (by rfl) T.m_l_draw FD.kp (bDrw FD) .nil pass0 (pa_cons (pv 0) (pa_cons pe_int pa_nil))
  refine ⟨_, pss_cons (ps_set (i := 1) scSix.nd rfl (Or.inl rfl) (pe_call GT (hr.mono (by decide)) (by rfl) T.m_l_titles FT.kp (bTit FT) .nil pass0 (pa_cons (pv 0) (pa_cons (pe_op op_add pe_int cD) pa_nil))))
    (pss_cons (ps_setLc (i := 2) (own := [("_law_title", 6)]) (g := gName 6) (tt := tYes) (te := tCall (spLw K) [] (fun _ _ _ => False) (tCons (tVar 6) (tCons (tCall (spSts K) [] E0 (tCons (tVar 0) tNil)) tNil))) rfl scSix.nd rfl rfl (sw_true rfl rfl rfl (by decide +kernel)) (pi_list (pv 1)) (blkOk_by (N := nSix) (sc := defScope sSix) (by decide +kernel))
          (fun _ _ _ _ _ => pg_name (i := 6) scSix.nd rfl (Or.inl rfl)) (fun _ _ _ _ _ => pts_nil) (fun _ _ _ _ _ => pe_call GW (hr.mono (by decide)) (by rfl) T.m_l_writer FW.kp (bLw FW) .nil passN (pa_cons (pv 6) (pa_cons (pe_call GS (hr.mono (by decide)) (by rfl) T.m_l_steps FS.kp (bSts FS) .nil pass0 (pa_cons (pv 0) pa_nil)) pa_nil))))
    (pss_cons (ps_set (i := 3) scSix.nd rfl (Or.inl rfl) (pe_call GG (hr.mono (by decide)) (by rfl) T.m_l_stages FG.kp (bStg FG) .nil (pass_c (takes_of rfl rfl rfl rfl)) (pa_cons (pv 0) (pa_cons (pe_op op_add pe_int cD) (pa_cons (pv 1) pa_nil)))))
    (pss_cons (ps_set (i := 4) scSix.nd rfl (Or.inl rfl) (pe_lst pa_nil))
    (pss_cons (ps_for (passes_of rfl) rfl (pi_range1 (by rfl) T.g_range (pa_cons (pe_callB call_len_seq (by rfl) T.g_len boot_len (pa_cons (pv 3) pa_nil)) pa_nil)) (pg_name (i := 5) scSix.nd rfl (Or.inr rfl))
      (pss_one (ps_set (i := 4) scSix.nd rfl (Or.inl rfl) (pe_op op_catR (pv 4) (pe_lc (own := [("_law_other", 7)]) (g := gName 7) (tt := tTest (tOp rEq (tCall spDraw [] E0 (tCons (tVar 0) (tCons (tC (.int 4)) tNil))) (tC (.int 0)))) (te := tTup (tCons (tVar 5) (tCons (tVar 7) tNil))) rfl scSix.nd (pi_range1 (by rfl) T.g_range (pa_cons (pv 5) pa_nil)) (blkOk_by (N := nSix) (sc := defScope sSix) (by decide +kernel))
          (fun _ _ _ _ _ => pg_name (i := 7) scSix.nd rfl (Or.inl rfl)) (fun _ _ _ _ _ => pts_one (pt_cmpR op_eq (pe_call GD (hr.mono (by decide)) (by rfl) T.m_l_draw FD.kp (bDrw FD) .nil pass0 (pa_cons (pv 0) (pa_cons pe_int pa_nil))) pe_int (nomark _))) (fun _ _ _ _ _ => pe_tup (pa_cons (pv 5) (pa_cons (pv 7) pa_nil))))))))
    (pss_one (ps_ret (pe_lst (pa_cons (pv 2) (pa_cons (pe_call GF (hr.mono (by decide)) (by rfl) T.m_l_filled FF.kp (bFil FF) .nil (pass_c (takes_of rfl rfl rfl rfl)) (pa_cons (pv 0) pa_nil)) (pa_cons (pv 3) (pa_cons (pe_op op_add pe_int cD) (pa_cons cD (pa_cons (pv 4) pa_nil))))))))))))), ?_⟩
  obtain ⟨a, rfl, wl, k⟩ := h
  have big : 1000 < sizeLine := by decide
  refine ⟨_, rfl, _, rfl, a, 4, rfl, wl, by decide, by decide, fun H1 d d0 d1 w1 b1 => ⟨_, _, rfl, rfl, ?_⟩⟩
  obtain ⟨m, em, m1, m2⟩ : ∃ m : Nat, (1 : Int) + d = (m : Int) ∧ 1 ≤ m ∧ m ≤ 4 := ⟨(1 + d).toNat, by omega, by omega, by omega⟩
  refine ⟨a, m, (by show [V.ref a, V.int (1 + d)] = _; rw [em]), w1, by omega, fun zs G la wG bG nla hla lz nd nm hds => ?_⟩
  have B := b1.trans bG
  have laa : la ≠ a := w1.new nla
  -- staff
  refine ⟨_, rfl, la, rfl, ⟨_, SqL.of hla⟩, fun D nD => ?_⟩
  have na := wG.new nD
  have S0 := Same.new (o := .lst []) nD
  refine lc_list (K := K) (xs := zs.map V.str) (fun i G' => Well G' a ∧ But a G G' ∧ ∃ (ws : List V) (es : List (Str × List Tr)), G' D = some (.lst ws) ∧ Each (WrX K) G' ws es ∧ es.map (·.1) = zs.take i) ⟨wG.same S0, But.of S0, [], [], upd_same, ⟨rfl, fun i x e => by cases e⟩, by simp⟩ (fun i G' _ g => SqL.of (g.2.1 _ _ laa hla)) (fun i x G' hx g => ?_) (fun G' g => ?_)
  · obtain ⟨w', b', ws, es, hD, ew, en⟩ := g
    rw [List.getElem?_map] at hx
    obtain ⟨z, hz, rfl⟩ := Option.map_eq_some_iff.mp hx
    have li := (List.getElem?_eq_some_iff.mp hz).1
    have nz := nm z (List.mem_of_getElem? hz)
    refine ⟨rfl, _, rfl, _, rfl, a, rfl, w', fun ds xs G3 l w3 b3 nl hl sd l1 l3 bd => ?_⟩
    refine ⟨l, z, xs, ds, rfl, SqL.of hl, nz, (name_lay nz).1, sd, ⟨l1, l3⟩, (fun i e => by rw [bd] at e; cases e), fun _ G4 c nc s4 wr => ?_⟩
    have hD4 := s4 _ _ (b3 _ _ na hD)
    have B34 := b3.trans (But.of s4)
    have lws := ew.1
    have len := congrArg List.length en
    rw [List.length_map, List.length_take] at len
    have w4 := w3.same s4
    have ew4 := wrx_but ew w' B34
    have nx := wrX_of wr (sd.same s4) bd
    have fx : Fx G4 (upd G4 D (.lst (ws ++ [.ref c]))) := fun b o e _ n => (upd_ne (fun z => by rw [z, hD4] at e; exact n _ (Option.some.inj e).symm)).trans e
    refine ⟨_, hD4, by omega, ?_, But.sub b' nD B34, ws ++ [.ref c], es ++ [(z, ds.map Sd.tr)], upd_same, ?_, ?_⟩
    · obtain ⟨x, y, v, e⟩ := w4
      exact ⟨x, y, v, by rw [upd_ne (Ne.symm na)]; exact e⟩
    · exact Each.snoc (ew4.same fun _ _ h => h.fx fx) (nx.fx fx)
    · rw [List.map_append, en, List.take_succ, hz]
      rfl
  · obtain ⟨w2, b2, ws, es, hD, ew, en⟩ := g
    rw [List.length_map, List.take_length] at en
    have lz' : es.length = zs.length := by rw [← en, List.length_map]
    have B2 := B.trans b2
    -- phases
    refine ⟨_, rfl, _, rfl, a, 6, rfl, w2, by omega, by omega, fun G3 d3 e0 e1 w3 b3 => ⟨_, _, rfl, rfl, _, rfl, ?_⟩⟩
    obtain ⟨m3, em3, p1, p2⟩ : ∃ m3 : Nat, (1 : Int) + d3 = (m3 : Int) ∧ 1 ≤ m3 ∧ m3 ≤ 6 := ⟨(1 + d3).toNat, by omega, by omega, by omega⟩
    refine ⟨a, la, m3, zs, (by show [V.ref a, V.int (1 + d3), V.ref la] = _; rw [em3]), w3, by omega, b3 _ _ laa (b2 _ _ laa hla), laa, by omega, nd, nm, fun ds ps G4 lp w4 b4 nlp hlp ep ld ndz al => ?_⟩
    have ew4 := wrx_but (wrx_but ew w2 b3) w3 b4
    have hD4 := b4 _ _ na (b3 _ _ na hD)
    have B4 := (B2.trans b3).trans b4
    have lps := some_len ep
    have lpa : lp ≠ a := w3.new nlp
    have phx : Each (PhX K) G4 ps ds := ⟨lps, fun i x e => by
      obtain ⟨r, er, hr⟩ := ep.2 i x e
      obtain ⟨q, rfl⟩ := mem_some er
      obtain ⟨⟨c, ex, h⟩, _⟩ := hr
      rw [List.getElem?_map] at er
      obtain ⟨y, e1, e2⟩ := Option.map_eq_some_iff.mp er
      cases e2
      exact ⟨_, e1, c, ex, h⟩⟩
    have lws : ∀ e ∈ ds, e.ws.length ≤ 1000 := fun e he => by
      obtain ⟨i, ei⟩ := List.getElem?_of_mem he
      have li := (List.getElem?_eq_some_iff.mp ei).1
      obtain ⟨r, er, hr⟩ := ep.2 i (ps[i]'(by omega)) (List.getElem?_eq_getElem (by omega))
      rw [List.getElem?_map, ei] at er
      cases er
      exact hr.2
    clear b2 b3 b4 B2 hD ew w2 w3 hla ep
    -- ways
    refine ⟨(show 0 ≤ sizeLine by decide), fun lw nlw => ?_⟩
    have S5 := Same.new (o := .lst []) nlw
    have hlp5 := S5 _ _ hlp
    refine ⟨_, rfl, lp, ps, rfl, .inl (SqL.of hlp5), ((ps.length : Nat) : Int), rfl, by omega, by omega, ?_⟩
    rw [show ((ps.length : Nat) : Int).toNat = ps.length by omega]
    refine for_range (lo := 0) (n := ps.length) (fun i σ G => ∃ (l : Addr) (v5 v6 v7 : Option V) (bs : List V) (rs : List (Int × Int)), σ = [some (.ref a), some (.ref la), some (.ref D), some (.ref lp), some (.ref l), v5, v6, v7] ∧ Well G a ∧ But a G4 G ∧ l ≠ a ∧ G l = some (.lst bs) ∧ Each (WyAt K) G bs rs ∧ rs.Sublist (allW i))
      ⟨lw, _, _, _, [], [], rfl, w4.same S5, But.of S5, w4.new nlw, upd_same, ⟨rfl, fun i x e => by cases e⟩, List.Sublist.refl _⟩ (fun i σ G5 li g => ?_) (fun σ G5 g => ?_)
    · obtain ⟨l, v5, v6, v7, bs, rs, rfl, w5, b5, nl, hl, eb, sub⟩ := g
      refine ⟨_, rfl, _, rfl, (i : Int), (by rw [Int.zero_add]), by omega, by omega, fun D2 nD2 => ?_⟩
      rw [show ((i : Nat) : Int).toNat = i by omega]
      have n2 := w5.new nD2
      have SD := Same.new (o := .lst []) nD2
      have rl : (rowW i).length = i := by unfold rowW; rw [List.length_map, List.length_range]
      refine lc_range (lo := 0) (n := i) (fun j G' => Well G' a ∧ But a G5 G' ∧ ∃ (ys : List V) (qs : List (Int × Int)), G' D2 = some (.lst ys) ∧ Each (WyAt K) G' ys qs ∧ qs.Sublist ((rowW i).take j)) ⟨w5.same SD, But.of SD, [], [], upd_same, ⟨rfl, fun i x e => by cases e⟩, by simp⟩ (fun j G' lj g => ?_) (fun G' g => ?_)
      · obtain ⟨w', b', ys, qs, hD2, ey, sub'⟩ := g
        have er : (rowW i)[j]? = some ((i : Int), (j : Int)) := by
          unfold rowW
          rw [List.getElem?_map, List.getElem?_range lj]
          rfl
        have tk : (rowW i).take (j + 1) = (rowW i).take j ++ [((i : Int), (j : Int))] := by rw [List.take_succ, er]; rfl
        refine ⟨rfl, _, rfl, a, 4, rfl, w', by decide, by decide, fun G9 d9 z0 z1 w9 b9 => ⟨rfl, _, rfl, ?_⟩⟩
        have hD9 := b9 _ _ n2 hD2
        have ey9 : Each (WyAt K) G9 ys qs := ey.same fun _ _ h => h.fx (but_fx w' b9)
        by_cases e : d9 = 0
        · rw [show decide (V.int d9 = V.int 0) = true by simp [e]]
          refine iteT ⟨_, rfl, _, rfl, (show 2 ≤ sizeLine by decide), fun p np => ?_⟩
          have sp := Same.new (o := .tup [.int (0 + (i : Int)), .int (0 + (j : Int))]) np
          have hp : upd G9 p (.tup [.int (0 + (i : Int)), .int (0 + (j : Int))]) p = some (.tup [.int (0 + (i : Int)), .int (0 + (j : Int))]) := upd_same
          generalize upd G9 p (.tup [.int (0 + (i : Int)), .int (0 + (j : Int))]) = G6 at sp hp ⊢
          rw [Int.zero_add, Int.zero_add] at hp
          have hD6 := sp _ _ hD9
          have w6 := w9.same sp
          have fx : Fx G6 (upd G6 D2 (.lst (ys ++ [.ref p]))) := fun b o e _ n => (upd_ne (fun z => by rw [z, hD6] at e; exact n _ (Option.some.inj e).symm)).trans e
          refine ⟨_, hD6, ?_, ?_, But.sub b' nD2 (b9.trans (But.of sp)), ys ++ [.ref p], qs ++ [((i : Int), (j : Int))], upd_same, ?_, ?_⟩
          · have := sub'.length_le
            rw [List.length_take] at this
            have := ey.1
            omega
          · obtain ⟨x, y, v, e⟩ := w6
            exact ⟨x, y, v, by rw [upd_ne (Ne.symm n2)]; exact e⟩
          · exact Each.snoc (ey9.same fun _ _ h => (h.same sp).fx fx) (WyAt.fx ⟨p, rfl, SqT.of hp⟩ fx)
          · rw [tk]
            exact sub'.append (List.Sublist.refl _)
        · rw [show decide (V.int d9 = V.int 0) = false by simp [e]]
          exact iteF ⟨w9, b'.trans b9, ys, qs, hD9, ey9, by rw [tk]; exact sub'.trans (List.sublist_append_left _ _)⟩
      · obtain ⟨w', b', ys, qs, hD2, ey, sub'⟩ := g
        rw [List.take_of_length_le (by omega)] at sub'
        have eb' : Each (WyAt K) G' bs rs := eb.same fun _ _ h => h.fx (but_fx w5 b')
        have lb := eb.1
        have l1 := allW_len i (by omega)
        have ly := ey.1
        have sl := sub.length_le
        have sl' := sub'.length_le
        refine ⟨l, D2, bs, ys, rfl, rfl, SqL.of (b' _ _ nl hl), SqL.of hD2, by omega, fun q nq => ?_⟩
        have sq := Same.new (o := .lst (bs ++ ys)) nq
        refine ⟨q, _, _, _, bs ++ ys, rs ++ qs, rfl, w'.same sq, (b5.trans b').trans (But.of sq), w'.new nq, upd_same, ?_, ?_⟩
        · exact Each.app (eb'.same fun _ _ h => h.same sq) (ey.same fun _ _ h => h.same sq)
        · rw [allW_succ]
          exact sub.append sub'
    · obtain ⟨l, v5, v6, v7, bs, rs, rfl, w5, b5, nl, hl, eb, sub⟩ := g
      have fx5 := but_fx w4 b5
      have hD5 := b5 _ _ na hD4
      have hlp5' := b5 _ _ lpa hlp
      refine ⟨_, rfl, _, rfl, a, rfl, w5, fun c G6 w6 b6 fl => ?_⟩
      refine ⟨_, rfl, _, rfl, a, 2, rfl, w6, by decide, by decide, fun G7 d7 f0 f1 w7 b7 => ⟨_, _, rfl, rfl, ?_⟩⟩
      refine ⟨_, rfl, a, 3, rfl, w7, by decide, by decide, fun G8 d8 g0 g1 w8 b8 => ⟨_, rfl, (show 6 ≤ sizeLine by decide), fun l6 nl6 => ?_⟩⟩
      have b58 := (b6.trans b7).trans b8
      have fx8 := but_fx w5 b58
      have S6 := Same.new (o := .lst [.ref D, .ref c, .ref lp, .int (1 + d7), .int d8, .ref l]) nl6
      have lb := eb.1
      have lw36 := allW_len ps.length (by omega)
      have flk : FlK K G8 c := flk_but (flk_but fl w6 b7) w7 b8
      obtain ⟨fd', flx⟩ := flX_of (flk.same S6)
      have ok : Rd.ro ⟨es, fd', ds, 1 + d7, d8, rs⟩ |>.Ok := {
        z1 := by show 1 ≤ (es.map (·.1)).length; rw [en]; omega
        z4 := by show (es.map (·.1)).length ≤ 4; rw [en]; omega
        zn := by show badN ((es.map (·.1)).map some) = none; rw [en]; exact badN_iff.mpr nd
        p1 := by show 1 ≤ ds.length; omega
        p6 := by show ds.length ≤ 6; omega
        pn := by show badP (ds.map some) (es.map (·.1)) = none; rw [en]; exact badP_iff.mpr ⟨ndz, al⟩
        w1 := by show 1 ≤ 1 + d7; omega
        w2 := by show 1 + d7 ≤ 2; omega
        h0 := g0
        h2 := by show d8 ≤ 2; omega
        bl := by
          show rs.length ≤ 1000
          have := sub.length_le
          omega
        bn := by
          show badY (rs.map some) (ds.length : Nat) = none
          rw [← lps]
          exact ways_ok sub }
      exact k l6 D c lp l ws ps bs ⟨es, fd', ds, 1 + d7, d8, rs⟩ _ (w8.same S6) ((((B4.trans b5).trans b58)).trans (But.of S6))
        ⟨upd_same, S6 _ _ (b58 _ _ na hD5), S6 _ _ (b58 _ _ lpa hlp5'), S6 _ _ (b58 _ _ nl hl), w8.new nl6, na, lpa, nl, (ew4.same fun _ _ h => (h.fx fx5).fx fx8).same fun _ _ h => h.same S6, flx, (phx.same fun _ _ h => (h.fx fx5).fx fx8).same fun _ _ h => h.same S6, (eb.same fun _ _ h => h.fx fx8).same fun _ _ h => h.same S6, lws, ok, by rw [en]; exact nm, by rw [en]; exact hds, by have := sub.length_le; omega, flk.same S6⟩
end
end K09

set_option maxRecDepth 100000
set_option maxHeartbeats 4000000
/-! try with several except clauses, each with a name or without. -/
namespace L2
open PySem PySem.Spec PyProof.Rows
/-- a clause: its class, the slot of its name, its suite's reading -/
abbrev Clause : Type := Value × Option Nat × (Addr → Value → Option Addr → TS)
def Ends.drop (D : Ends) (i : Nat) : Ends := { nx := fun σ H => D.nx (σ.set i none) H, rt := D.rt, bk := fun σ H => D.bk (σ.set i none) H, ct := fun σ H => D.ct (σ.set i none) H }
def Clause.go (q : Clause) (a : Addr) (cls : Value) (d : Option Addr) (D : Ends) (σ : St) (H : Hp) : Prop := match q.2.1 with
  | none => q.2.2 a cls d D σ H
  | some i => q.2.2 a cls d (D.drop i) (σ.set i (some (.ref a))) H
/-- what the clauses wish, one behind another -/
def wMix (K : PySem.W.Frag) (Wout : WX) (D : Ends) : List Clause → WX
  | [] => Wout
  | q :: r => fun cls d σ H => ∃ b, PySem.W.exmOne K cls q.1 = some b ∧ (b = true → ∀ a, H a = none → q.go a cls d D σ H) ∧ (b = false → wMix K Wout D r cls d σ H)
inductive MixOk (X : Cx) : List ExceptHandler → List Clause → Prop
  | nil : MixOk X [] []
  | bare {x : Str} {c : Value} {ts : Addr → Value → Option Addr → TS} {st : Stmt} {more : List Stmt} {p1 p2 : Pos} {hs : List ExceptHandler} {l : List Clause} (hc : Names X x c)
      (su : ∀ (a : Addr) (oe : Obj) (cls : Value) (d : Option Addr) (pn : List (Addr × Obj)), Zc cls d oe → (∃ vs, oe.data = .fields vs) → PSs (X.suite a ((a, oe) :: pn)) (st :: more) (ts a cls d)) (r : MixOk X hs l) :
      MixOk X (.ExceptHandler (some (.Name x p1)) none (st :: more) p2 :: hs) ((c, none, ts) :: l)
  | named {x n : Str} {i : Nat} {c : Value} {ts : Addr → Value → Option Addr → TS} {st : Stmt} {more : List Stmt} {p1 p2 : Pos} {hs : List ExceptHandler} {l : List Clause} (hN : X.N.Nodup) (hi : X.N[i]? = some n) (hl : X.env.kindOf n = some .local) (hc : Names X x c)
      (su : ∀ (a : Addr) (oe : Obj) (cls : Value) (d : Option Addr) (pn : List (Addr × Obj)), Zc cls d oe → (∃ vs, oe.data = .fields vs) → PSs (X.suite a ((a, oe) :: pn)) (st :: more) (ts a cls d)) (r : MixOk X hs l) :
      MixOk X (.ExceptHandler (some (.Name x p1)) (some n) (st :: more) p2 :: hs) ((c, some i, ts) :: l)
section
variable {X : Cx} {body : List Stmt} {k0 : ExceptHandler} {ks : List ExceptHandler} {l : List Clause} {pos : Pos} {tb : WX → TS} {Wout : WX}
theorem ps_try_mix (hst : X.stack = X.env :: X.outer) (hfr : X.env.frame = some X.env.locals) (tk : Takes X Wout)
    (hb : ∀ (W : WX) (pn : List (Addr × Obj)) (xe : Value → Shared → Prop), Takes (X.tr pn xe) W → PassesOwn (model X.prog X.w) X.A X.env xe → PSs (X.tr pn xe) body (tb W))
    (hk : MixOk X (k0 :: ks) l) : PS X (.Try body (k0 :: ks) [] [] pos) (fun D σ H => tb (wMix X.K Wout D l) D σ H) := by
  refine ⟨fun pins s σ H D I h => ?_⟩
  have good := I.ok
  have fr : X.A.frames = some (X.env :: X.outer) := by
    rw [good.frames, hst]
  refine wpAny_Try_except ?_
  refine wpAny_mono ((hb (wMix X.K Wout D l) (X.pn ++ pins) (fun e z1 => wpAny (model X.prog X.w) X.A (noteFrame e X.env) (fun _ z2 => wpAny (model X.prog X.w) X.A (setFlight e none)
    (fun _ z3 => wpAny (model X.prog X.w) X.A (handleBy e X.env (k0 :: ks)) (SP X pins D) X.xe z3) X.xe z2) X.xe z1) (fun u s' air => ?_) PassesOwn.looking).run [] s σ H D (I.toTry _) h)
    (fun f z hz => ?_) (fun e z hz => hz)
  · obtain ⟨a, B, sB, qs, ρ, G, cls, d, rfl, J0, inB, ups, sky, nG, eos, bare, wish⟩ := air
    have J : Inv X pins ρ G sB := J0.ofTry good
    have sk : Sky B (X.env :: X.outer) a (Zc cls d) X.env.locals s'.heap := by
      rw [← hst]
      exact sky
    show wpAny (model X.prog X.w) X.A (noteFrame (Value.ref a) X.env) _ _ _
    refine Sky.land Zc.steady fr hfr sk fun g3 fly up3 => ?_
    have J3 : Inv X pins ρ G { s' with heap := g3 } := J.landed inB fly.1 (ups.trans up3) eos bare
    obtain ⟨o3, v3, at3, z3, d3⟩ := fly.there
    have away : a ∉ frs (X.env :: X.outer) := fun hm => by
      obtain ⟨_, o', e', no⟩ := fly.2.2.1.mem hm
      rw [at3] at e'
      cases e'
      exact no _ d3
    have nL : a ≠ X.env.locals := fun z => away (List.mem_filterMap.mpr ⟨X.env, List.mem_cons_self, by
      rw [hfr, z]⟩)
    have nF : a ∉ X.fs := fun hm => by
      obtain ⟨e, he, q⟩ := List.mem_filterMap.mp hm
      exact away (List.mem_filterMap.mpr ⟨e, List.mem_cons_of_mem _ he, q⟩)
    have S3 := J3.suite at3 d3 nG nL nF
    have isC : PySem.W.Looks (model X.prog X.w) g3 (typeOf (.ref a)) cls := fun A Q E s k q => wpAny_typeOf_ref (k _ _ at3) (by
      rw [z3.1]
      exact q)
    have name : ∀ {x : Str} {c : Value} {p1 : Pos} {Q : Value → Shared → Prop} {E : Value → Shared → Prop}, Names X x c → Q c { s' with heap := g3 } → wpAny (model X.prog X.w) (X.A.mark (some (.ref a))) (eval (.Name x p1) X.env) Q E { s' with heap := g3 } := fun {x c p1 Q E} hc q => by
      obtain ⟨w1, w2, w3 | ⟨w3, w4, w5⟩⟩ := hc
      · exact ld_glob (X := X.suite a ((a, o3) :: (X.pn ++ pins))) S3 w1 w3 q w2
      · exact ld_blt (X := X.suite a ((a, o3) :: (X.pn ++ pins))) S3 w1 w3 w4 q w5 w2
    have go : ∀ {hs' : List ExceptHandler} {l' : List Clause}, MixOk X hs' l' → wMix X.K Wout D l' cls d ρ G → wpAny (model X.prog X.w) X.A (handleBy (.ref a) X.env hs') (SP X pins D) X.xe { s' with heap := g3 } := by
      intro hs' l' m
      induction m with
      | nil =>
        intro w
        refine wpAny_handleBy_nil ?_
        obtain ⟨_, _, _, oe, vs, tb', _, _, he, _, hd, h1, _⟩ := id fly
        unfold PySem.passOn
        refine wpAny_bind (wpAny_field he hd h1 ?_)
        rw [if_neg (show ¬ ((Value.ref tb' == Value.none) = true) by simp)]
        have out : wpAny (model X.prog X.w) X.A (setFlight (.ref a) X.env.frame) (fun _ z4 => wpAny (model X.prog X.w) X.A (throw (.ref a) : Sem Flow) (SP X pins D) X.xe z4) X.xe { s' with heap := g3 } := by
          rw [hfr]
          refine HandSPX.setFlight_upZ fly fun h4 held up4 => wpAny_throw (tk _ _ ?_)
          exact ⟨a, B, sB, pins, ρ, G, cls, d, rfl, J, inB, (ups.trans up3).trans up4, .inr (.inr (by
            rw [hst]
            exact held)), nG, eos, bare, w⟩
        first
          | exact wpAny_bind (wpAny_pure (wpAny_bind out))
          | exact wpAny_bind out
      | @bare x c ts st more p1 p2 hs2 l2 hc su r ih =>
        intro w
        obtain ⟨b, e1, yes, no⟩ := w
        refine wpAny_handleBy_cons (codeAny_handlers_test ?_) (by
          intro q
          cases q)
        refine name hc ((PySem.W.exm_one (M := model X.prog X.w) J3.kIn isC e1).here ?_)
        cases b with
        | true =>
          refine codeAny_handlers_suite ?_
          refine HandSPX.lands_againZ fly fun g4 fly4 up4 => ?_
          have J4 : Inv X pins ρ G { s' with heap := g4 } := J.landed inB fly4.1 ((ups.trans up3).trans up4) eos bare
          obtain ⟨o4, v4, at4, z4, d4⟩ := fly4.there
          refine wpAny_mono ((su a o4 cls d (X.pn ++ pins) z4 ⟨_, d4⟩).run [] _ _ G _ (J4.suite at4 d4 nG nL nF) (yes rfl a nG)) (fun f z6 hsp => ?_) (fun _ _ z => False.elim z)
          cases f with
          | ret u =>
            obtain ⟨v6, ρ6, G6, S6, r6, q6⟩ := hsp
            exact ⟨_, _, _, S6.unsuite good, r6, q6⟩
          | _ =>
            obtain ⟨ρ6, G6, S6, q6⟩ := hsp
            exact ⟨_, _, S6.unsuite good, q6⟩
        | false =>
          show wpAny _ X.A (handleBy (.ref a) X.env hs2) _ _ _
          exact ih (no rfl)
      | @named x n i c ts st more p1 p2 hs2 l2 hN hi hl hc su r ih =>
        intro w
        obtain ⟨b, e1, yes, no⟩ := w
        have loc : Loc X.env.scope n := .inl hl
        refine wpAny_handleBy_cons (codeAny_handlers_test ?_) (by
          intro q
          cases q)
        refine name hc ((PySem.W.exm_one (M := model X.prog X.w) J3.kIn isC e1).here ?_)
        cases b with
        | true =>
          refine codeAny_handlers_suite_as ?_
          refine HandSPX.lands_againZ fly fun g4 fly4 up4 => ?_
          have J4 : Inv X pins ρ G { s' with heap := g4 } := J.landed inB fly4.1 ((ups.trans up3).trans up4) eos bare
          obtain ⟨o4, v4, at4, z4, d4⟩ := fly4.there
          refine store_ok (X := X.suite a ((a, o4) :: (X.pn ++ pins))) (v := V.ref a) (J4.suite at4 d4 nG nL nF) hN hi loc rfl (fun z5 S5 => ?_) (.inr hl)
          refine wpAny_mono ((su a o4 cls d (X.pn ++ pins) z4 ⟨_, d4⟩).run [] z5 _ G _ S5 (yes rfl a nG)) (fun f z6 hsp => ?_) (fun _ _ z => False.elim z)
          have goes : ∀ {ρ6 : St} {G6 : Hp} {Q : Shared → Prop}, Inv (X.suite a ((a, o4) :: (X.pn ++ pins))) [] ρ6 G6 z6 → (∀ z7, Inv X pins (ρ6.set i none) G6 z7 → Q z7) →
              wpAny (model X.prog X.w) X.A (do bindName X.env n .none; unbindBehindTheSuite X.env n p2) (fun _ z7 => Q z7) X.xe z6 := fun S6 hq => gone_ok (S6.unsuite good) hN hi hl hq
          cases f with
          | ret u =>
            obtain ⟨v6, ρ6, G6, S6, r6, q6⟩ := hsp
            exact goes S6 fun z7 J7 => ⟨_, _, _, J7, r6, q6⟩
          | _ =>
            obtain ⟨ρ6, G6, S6, q6⟩ := hsp
            exact goes S6 fun z7 J7 => ⟨_, _, J7, q6⟩
        | false =>
          show wpAny _ X.A (handleBy (.ref a) X.env hs2) _ _ _
          exact ih (no rfl)
    exact go hk wish
  · cases f with
    | next =>
      obtain ⟨ρ, G, J0, q⟩ := hz
      exact wpAny_execs_nil ⟨ρ, G, J0.ofTry good, q⟩
    | ret u =>
      obtain ⟨v, ρ, G, J0, r, q⟩ := hz
      exact ⟨v, ρ, G, J0.ofTry good, r, q⟩
    | _ =>
      obtain ⟨ρ, G, J0, q⟩ := hz
      exact ⟨ρ, G, J0.ofTry good, q⟩
end
/-- isinstance(e, c) in a suite, e the exception that it holds, with a dict of its own -/
def rIsD (K : PySem.W.Frag) (a : Addr) (cls : Value) (d : Option Addr) : List V → Hp → VK → Prop := fun xs H Q => ∃ (D dd : Addr) (fs : List (Str × V)) (c : V) (cv : Value) (b : Bool), xs = [.ref a, c] ∧ cls = .ref D ∧ d = some dd ∧ H dd = some (.xd fs) ∧ ExcC K D ∧ (∀ u, RelV c u → u = cv) ∧
  PySem.W.kitOne K (.ref D) cv = some b ∧ Q (.bl b) H
theorem call_isD {X : Cx} {a : Addr} {oe : Obj} {cls : Value} {d : Option Addr} {pn : List (Addr × Obj)} (hz : Zc cls d oe) (hf : ∃ vs, oe.data = .fields vs) : CallR (X.suite a ((a, oe) :: pn)) (.builtin "isinstance") (rIsD X.K a cls d) := by
  intro pins s σ H xs us Q I r h
  obtain ⟨D, dd, fs, c, cv, b, rfl, rfl, rfl, hd, C, hcv, e, q⟩ := h
  obtain ⟨u, v, rfl, ru, rv⟩ := vals2 r
  obtain rfl : u = Value.ref a := ru
  obtain rfl := hcv _ rv
  obtain ⟨at_, _⟩ := I.pin (a, oe) (List.mem_append_left _ List.mem_cons_self)
  obtain ⟨vs, hv⟩ := hf
  obtain ⟨mA, ns, _⟩ := (show ObjOk X.prog X.w H s.heap dd (.xd fs) from I.hok dd _ hd)
  obtain ⟨od, eo, _⟩ := lookIn_ns ns
  have J : PySem.W.InstAt s.heap a oe D (some od) := by
    refine ⟨at_, hz.1, ?_, ?_⟩
    · unfold PySem.W.notCls
      rw [hv]
    · rw [hz.2]
      exact eo
  exact PySem.W.kia_one (PySem.W.vx_kit C) I.kIn ⟨oe, some od, J⟩ e (fun z => nomatch z) fun tk => ⟨.bl b, H, I.kept (t' := tk) fun _ _ z => z, rfl, q⟩
end L2

set_option maxRecDepth 100000
set_option maxHeartbeats 4000000
/-! A def that hands back a word and what its argument returns, or what its except clauses say: called with a lambda. -/
namespace LamX
open PySem PySem.Spec PyProof.Rows L2
theorem takes_len {X : Cx} {W : WX} (tk : Takes X W) : Takes X (fun cls d σ H => σ.length = X.N.length → W cls d σ H) := fun u s' h => by
  obtain ⟨a, B, sI, pins, σ, H, cls, d, e, I, k1, k2, k3, k4, k5, k6, k7⟩ := h
  exact tk u s' ⟨a, B, sI, pins, σ, H, cls, d, e, I, k1, k2, k3, k4, k5, k6, k7 I.len⟩
theorem takes_no {X : Cx} : Takes X (fun _ _ _ _ => False) := fun u s' h => by
  obtain ⟨_, _, _, _, _, _, _, _, _, _, _, _, _, _, _, _, z⟩ := h
  exact z.elim
/-- what is asked of the lambda -/
def TTmix (K : PySem.W.Frag) (n : Nat) (l : List Clause) (told : Str) : (XK → Hp → VK → Prop) → Hp → VK → Prop := fun tl H Q =>
  tl (fun cls d H' => ∀ σ' : L2.St, σ'.length = n → wMix K (fun _ _ _ _ => False) { nx := fun _ H' => Q V.non H', rt := Q } l cls d σ' H') H
    (fun v H1 => ([.str told, v] : List V).length ≤ sizeLine ∧ ∀ p, H1 p = none → Q (.ref p) (upd H1 p (.tup [.str told, v])))
theorem said_gives {X : Cx} {Ng : List Str} {x a q told : Str} {sg : Scope} {g : Addr} {cdg : Value} {j : Nat} {k0 : ExceptHandler} {ks : List ExceptHandler} {l : List Clause} {p1 p2 p3 p4 p5 p6 : Pos} {x1 : Nat}
    (hs : ∀ f : Addr, (L2.start Ng [V.ref f])[0]? = some (some (V.ref f)))
    (hk : ∀ (s : Shared) (H : Hp), MixOk (cxOf C8.CX0 X.prog X.w X.K X.mg X.base Ng x sg g cdg X.A X.stack s H C8.E0).nox (k0 :: ks) l) :
    GivesTo X Ng x sg g cdg [.Try [.Return (some (.Tuple [.Constant (.str told) j p1, .Call (.Name a p2) [] [] p3] x1 p4)) p5] (k0 :: ks) [] [] p6] a q (TTmix X.K Ng.length l told) := by
  intro f c' s H Q tl act hc tt
  refine ⟨_, pss_one (ps_try_mix (Wout := fun _ _ _ _ => False) (l := l) rfl rfl takes_no
    (fun W pn xe tk _ => pss_one (ps_ret (pe_tup (pa_cons pe_str (pa_cons (act (fun cls d σ H => σ.length = Ng.length → W cls d σ H) pn xe (fun cls d H' => ∀ σ' : L2.St, σ'.length = Ng.length → W cls d σ' H') p2 p3 (takes_len tk) (fun cls d σ' H' h e => h σ' e)) pa_nil)))))
    (hk s H)), ?_⟩
  exact ⟨hs f, hc, tt⟩
end LamX

set_option maxRecDepth 100000
set_option maxHeartbeats 4000000
namespace K09
open PySem PySem.Spec PyProof.Rows L2 He VH RZ
open LamX (Fx)
/-! a Rollout of six parts, right or not; what is told of it -/
theorem isSq.same {α : Type} {p : Hp → V → α → Prop} {K : PySem.W.Frag} {H H' : Hp} {x : V} (s : Same H H') (k : ∀ x r, p H x r → p H' x r) : ∀ {r : Option (List V × List α)}, isSq p K H x r → isSq p K H' x r
  | some (_, _), ⟨a, e, h, q, l⟩ => ⟨a, e, h.same s, q.same k, l⟩
  | none, h => NoSq.same h s
theorem isFl.same {K : PySem.W.Frag} {H H' : Hp} {x : V} (s : Same H H') : ∀ {r : Option Addr}, isFl K H x r → isFl K H' x r
  | some _, ⟨e, h⟩ => ⟨e, h.same s⟩
  | none, h => NoC.same h s
theorem BntAt.same {K : PySem.W.Frag} {H H' : Hp} {x0 x1 x2 x3 x4 x5 : V} {t : Bnt} (h : BntAt K H x0 x1 x2 x3 x4 x5 t) (s : Same H H') : BntAt K H' x0 x1 x2 x3 x4 x5 t :=
  ⟨h.w.same s fun _ _ h => h.same s, h.f.same s, h.p.same s fun _ _ h => h.same s, fun G g => h.wk G (s.trans g), fun G g => h.hd G (s.trans g), h.b.same s fun _ _ h => h.same s⟩
theorem Rno.same {K : PySem.W.Frag} {E : XK} {H H' : Hp} {u : Str} {i : Int} (h : Rno K E H u i) (s : Same H H') : Rno K E H' u i := fun d G n s2 e => h d G (s.free n) (s.trans s2) e
abbrev sMad : Stmt := top 70
abbrev FnMad (K : PySem.W.Frag) (fd : FuncData) : Prop := FnP K "_law_made" sMad (ga K "_law_made") fd
theorem bMad {K : PySem.W.Frag} {fd : FuncData} (F : FnMad K fd) : Binds K fd ["_law_parts_here"] [] := FunD.bindsN F fun _ _ _ _ _ _ us hl => match us, hl with | [_], _ => rfl
def spMad (K : PySem.W.Frag) : Sp := fun vs H Q E => ∃ (l : Addr) (x0 x1 x2 x3 x4 x5 : V) (t : Bnt), vs = [.ref l] ∧ H l = some (.lst [x0, x1, x2, x3, x4, x5]) ∧ BntAt K H x0 x1 x2 x3 x4 x5 t ∧
  (∀ u i, t.bad = some (u, i) → Rno K E H u i) ∧ (∀ (ws ps bs : List V) (fa : Addr) (d : Ro), t.Is ws ps bs fa d → d.Ok → ∀ (c : Addr) (H' : Hp), Same H H' → RoAt K H' c ws ps bs fa d → Q (.ref c) H')
section
variable {P : Program} {w : World} {K : PySem.W.Frag} {mg : Str → Option Value} {base : Heap} {f : Addr} {fd : FuncData}
theorem scMad : FnScope ["_law_parts_here"] ["_law_parts_here"] (defScope sMad) := ⟨rfl, rfl, rfl, by decide +kernel, rfl, by decide +kernel, by decide +kernel⟩
theorem ok_mad (F : FnP K "_law_made" sMad f fd) (T : Txt K mg w) (fns : Fns K) : FnOk P w K mg base (L2.CX P w) 7 f fd ["_law_parts_here"] (spMad K) := by
  obtain ⟨fdI, FI⟩ := fns.f_Rollout_init
  obtain ⟨mv, kb⟩ := kRo FI
  have GI : FnOk P w K mg base (L2.CX P w) 5 (ma K (ga K "Rollout") "__init__") fdI pRoI (spRoI K) := ok_roI FI T fns
  refine F.ok scMad (fun vs H Q E h => ?_) (fun cdv A outer s H vs Q E hr h => ?_)
  · obtain ⟨_, _, _, _, _, _, _, _, rfl, _⟩ := h
    rfl
  refine ⟨_, pss_one (ps_ret (pe_makeK (n := 3) (ks := ["workers", "hands", "back"]) T.mk_Rollout GI (hr.mono (by decide)) (by rfl) T.m_Rollout kb (pass_c (takes_of rfl rfl rfl rfl))
    (pa_cons (pe_ix ix_list (pv 0) pe_int (fun _ _ => rfl)) (pa_cons (pe_ix ix_list (pv 0) pe_int (fun _ _ => rfl)) (pa_cons (pe_ix ix_list (pv 0) pe_int (fun _ _ => rfl)) pa_nil)))
    (pk_cons (pe_ix ix_list (pv 0) pe_int (fun _ _ => rfl)) (pk_cons (pe_ix ix_list (pv 0) pe_int (fun _ _ => rfl)) (pk_cons (pe_ix ix_list (pv 0) pe_int (fun _ _ => rfl)) pk_nil))))), ?_⟩
  obtain ⟨l, x0, x1, x2, x3, x4, x5, t, rfl, hl, bt, kr, k⟩ := h
  have q := SqL.of (K := K) hl
  refine ⟨_, rfl, l, _, 0, x0, rfl, rfl, q, rfl, _, rfl, l, _, 1, x1, rfl, rfl, q, rfl, _, rfl, l, _, 2, x2, rfl, rfl, q, rfl, _, rfl, l, _, 3, x3, rfl, rfl, q, rfl, _, rfl, l, _, 4, x4, rfl, rfl, q, rfl, _, rfl, l, _, 5, x5, rfl, rfl, q, rfl, rfl, rfl, fun x dx nx ndx ne => ?_⟩
  have U1 := Same.new (o := .own x) ndx
  have nx1 : upd H dx (.own x) x = none := by rw [upd_ne (Ne.symm ne)]; exact nx
  have U2 := U1.trans (Same.new (o := .ins (ga K "Rollout") dx []) nx1)
  refine ⟨x, dx, x0, x1, x2, x3, x4, x5, t, rfl, upd_same, bt.same U2, fun u i e => (kr u i e).same U2, fun ws ps bs fa d is ok H' Bx ra => ⟨rfl, ?_⟩⟩
  exact k ws ps bs fa d is ok x H' (But.new ((But.of U1).trans (But.upd.trans Bx)) nx) ra
end
/-! what is told of a refusal -/
abbrev sSaid : Stmt := top 68
abbrev nSaid : List Str := ["_law_ask", "e"]
abbrev FnSaid (K : PySem.W.Frag) (fd : FuncData) : Prop := FnP K "_law_said" sSaid (ga K "_law_said") fd
theorem bSaid {K : PySem.W.Frag} {fd : FuncData} (F : FnSaid K fd) : Binds K fd ["_law_ask"] [] := FunD.bindsN F fun _ _ _ _ _ _ us hl => match us, hl with | [_], _ => rfl
theorem scSaid : FnScope nSaid ["_law_ask"] (defScope sSaid) := ⟨rfl, rfl, rfl, by decide +kernel, rfl, by decide +kernel, by decide +kernel⟩
/-- the clauses of _law_said -/
def clauses (K : PySem.W.Frag) : List Clause :=
  [(.ref (ga K "NoRollout"), some 1, fun a cls d => tRet (tTup (tCons (tXf a cls d (ga K "NoRollout") "part" (tVar 1)) (tCons (tXf a cls d (ga K "NoRollout") "index" (tVar 1)) tNil)))),
   (.ref (ga K "FillError"), none, fun _ _ _ => tRet (tTup (tCons (tC (.str "other")) (tCons (tC .non) tNil))))]
theorem gives {X : Cx} {g : Addr} {cdg : Value} {q : Str} (T : Txt X.K X.mg X.w) :
    LamX.GivesTo X nSaid "_law_said" (defScope sSaid) g cdg (defBody sSaid) "_law_ask" q (LamX.TTmix X.K 2 (clauses X.K) "told") := by
  refine LamX.said_gives (l := clauses X.K) (fun f => rfl) (fun s H => .named (i := 1) scSaid.nd rfl rfl ⟨rfl, by decide, .inl T.m_NoRollout⟩ (fun a oe cls d pn hz hf => pss_one (ps_ret (pe_tup (pa_cons (pe_xf T.x_NoRollout.xf (T.x_NoRollout.no "part" (by simp)) hz hf (pv 1)) (pa_cons (pe_xf T.x_NoRollout.xf (T.x_NoRollout.no "index" (by simp)) hz hf (pv 1)) pa_nil)))))
    (.bare ⟨rfl, by decide, .inl T.m_FillError⟩ (fun a oe cls d pn hz hf => pss_one (ps_ret (pe_tup (pa_cons pe_str (pa_cons pe_non pa_nil))))) .nil))
/-- the wish of _law_said -/
def Wsh (K : PySem.W.Frag) (Q : VK) : XK := fun cls d H' => ∀ σ' : L2.St, σ'.length = 2 → wMix K (fun _ _ _ _ => False) { nx := fun _ H' => Q V.non H', rt := Q } (clauses K) cls d σ' H'
/-- what is told of an answer -/
def tol (Q : VK) : VK := fun v H1 => ([.str "told", v] : List V).length ≤ sizeLine ∧ ∀ p, H1 p = none → Q (.ref p) (upd H1 p (.tup [.str "told", v]))
theorem told_no {K : PySem.W.Frag} {mg : Str → Option Value} {w : World} (T : Txt K mg w) {u : Str} {i : Int} {Q : VK} {H : Hp} (k : ∀ (H' : Hp) (p : Addr), H p = none → Same H H' → H' p = some (.tup [.str u, .int i]) → Q (.ref p) H') : Rno K (Wsh K Q) H u i := by
  intro d H' nd s e σ' l2
  match σ', l2 with
  | [v0, v1], _ =>
    refine ⟨true, T.xm "NoRollout" (by simp) "NoRollout" (by simp), fun _ a ha => ?_, fun q => Bool.noConfusion q⟩
    exact ⟨_, rfl, rfl, rfl, d, _, .str u, rfl, e, rfl, _, rfl, rfl, rfl, d, _, .int i, rfl, e, rfl, (show 2 ≤ sizeLine by decide), fun p hp => k _ p (s.free hp) (s.trans (Same.new hp)) upd_same⟩
/-- a Rollout asked for, in a def that tells -/
theorem told_mad {K : PySem.W.Frag} {mg : Str → Option Value} {w : World} (T : Txt K mg w) {H : Hp} {l : Addr} {x0 x1 x2 x3 x4 x5 : V} {t : Bnt} {Q : VK} (hl : H l = some (.lst [x0, x1, x2, x3, x4, x5])) (bt : BntAt K H x0 x1 x2 x3 x4 x5 t)
    (kr : ∀ u i, t.bad = some (u, i) → ∀ (H' : Hp) (p : Addr), Same H H' → H' p = some (.tup [.str u, .int i]) → Q (.ref p) H')
    (k : ∀ (ws ps bs : List V) (fa : Addr) (d : Ro), t.Is ws ps bs fa d → d.Ok → ∀ (c p : Addr) (H' : Hp), Same H H' → RoAt K H' c ws ps bs fa d → H' p = some (.tup [.str "told", .ref c]) → Q (.ref p) H') : spMad K [.ref l] H (tol Q) (Wsh K Q) :=
  ⟨l, x0, x1, x2, x3, x4, x5, t, rfl, hl, bt, fun u i e => told_no T fun H' p _ s e' => kr u i e H' p s e', fun ws ps bs fa d is ok c H' s ra => ⟨(show 2 ≤ sizeLine by decide), fun p np => by
    have sp := Same.new (o := .tup [.str "told", .ref c]) np
    exact k ws ps bs fa d is ok c p _ (s.trans sp) (ra.same sp) upd_same⟩⟩
theorem _root_.L2.Well.ext {a : Addr} {H H' : Hp} (w : Well H a) (s : LamX.ExtN H H') : Well H' a := by
  obtain ⟨c, b, n, w⟩ := w
  exact ⟨c, b, n, s _ _ w (fun _ z => by cases z)⟩
/-- the six parts as they are -/
def Rd.bnt (d : Rd) (ws ps bs : List V) (fa : Addr) : Bnt := ⟨some (ws, (d.ws.map (·.1)).map some), some fa, some (ps, d.ds.map some), some d.wk, some d.hd, some (bs, d.rs.map some)⟩
theorem Rd.is (d : Rd) (ws ps bs : List V) (fa : Addr) : (d.bnt ws ps bs fa).Is ws ps bs fa d.ro := ⟨rfl, rfl, rfl, rfl, rfl, rfl⟩
end K09

set_option maxRecDepth 100000
set_option maxHeartbeats 4000000
namespace K09
open PySem PySem.Spec PyProof.Rows L2 He VH RZ
open LamX (Fx)
/-! a bent list -/
abbrev sBen : Stmt := top 69
abbrev FnBen (K : PySem.W.Frag) (fd : FuncData) : Prop := FnP K "_law_bent" sBen (ga K "_law_bent") fd
theorem bBen {K : PySem.W.Frag} {fd : FuncData} (F : FnBen K fd) : Binds K fd ["_law_well_here", "_law_row", "_law_bad"] [] := FunD.bindsN F fun _ _ _ _ _ _ us hl => match us, hl with | [_, _, _], _ => rfl
def spBen (K : PySem.W.Frag) : Sp := fun vs H Q _ => ∃ (p r b : Addr) (xs ys : List V), vs = [.ref p, .ref r, .ref b] ∧ Well H p ∧ H r = some (.lst xs) ∧ r ≠ p ∧ H b = some (.lst ys) ∧ b ≠ p ∧ 0 < ys.length ∧ ys.length ≤ 100 ∧ xs.length ≤ 100 ∧
  (∀ (v : V) (t : Addr) (H' : Hp), Well H' p → But p H H' → (∀ G, (∀ b o, H b = none → H' b = some o → (∀ ps, o ≠ .tbl ps) → G b = some o) → NoSq K G v) → H' t = some (.tup [v, .int (-1)]) → Q (.ref t) H') ∧
  (∀ x ∈ xs, ∀ (D t : Addr) (H' : Hp), Well H' p → But p H H' → H D = none → H' D = some (.lst (xs ++ [x])) → H' t = some (.tup [.ref D, .int (xs.length : Nat)]) → Q (.ref t) H') ∧
  (∀ y ∈ ys, ∀ (i : Nat), i ≤ xs.length → ∀ (D t : Addr) (H' : Hp), Well H' p → But p H H' → H D = none → H' D = some (.lst (xs.take i ++ [y] ++ xs.drop i)) → H' t = some (.tup [.ref D, .int (i : Nat)]) → Q (.ref t) H')
theorem cut_dropN {xs : List V} {k : Nat} (h : k ≤ xs.length) : cutV xs (some (k : Int)) none = xs.drop k := by
  unfold cutV
  rw [HT.sIx_none, HT.sIx_nat, Nat.min_eq_left h]
  rw [List.take_of_length_le]
  rw [List.length_drop]
  omega
theorem noSq_of {K : PySem.W.Frag} {H : Hp} {x : V} {t : Tr} (h : At K H x t) (n : ∀ us, t ≠ .tup us) (m : ∀ us, t ≠ .lst us) : NoSq K H x := fun H' s => by
  refine ⟨_, (h.same s).ty, ?_, noTup n K⟩
  cases t with
  | lst us => exact absurd rfl (m us)
  | tup us => exact absurd rfl (n us)
  | non => exact (kit_ty (by decide +kernel) : PySem.W.kitOne K (.type "NoneType") (.type "list") = some false)
  | bl => exact (kit_ty (by decide +kernel) : PySem.W.kitOne K (.type "bool") (.type "list") = some false)
  | int => exact (kit_ty (by decide +kernel) : PySem.W.kitOne K (.type "int") (.type "list") = some false)
  | str => exact (kit_ty (by decide +kernel) : PySem.W.kitOne K (.type "str") (.type "list") = some false)
  | dct => exact (kit_ty (by decide +kernel) : PySem.W.kitOne K (.type "dict") (.type "list") = some false)
section
variable {P : Program} {w : World} {K : PySem.W.Frag} {mg : Str → Option Value} {base : Heap} {f : Addr} {fd fdD fdO : FuncData}
abbrev nBen : List Str := ["_law_well_here", "_law_row", "_law_bad", "_law_way", "_law_at"]
theorem scBen : FnScope nBen ["_law_well_here", "_law_row", "_law_bad"] (defScope sBen) := ⟨rfl, rfl, rfl, by decide +kernel, rfl, by decide +kernel, by decide +kernel⟩
theorem ok_ben (F : FnP K "_law_bent" sBen f fd) (T : Txt K mg w) (FD : FnDrw K fdD) (FO : FnOne K fdO) : FnOk P w K mg base CX0 3 f fd ["_law_well_here", "_law_row", "_law_bad"] (spBen K) := by
  have GD : FnOk P w K mg base CX0 1 (ga K "_law_draw") fdD ["_law_well_here", "_law_much"] spDraw := ok_draw FD T.g_int
  have GO : FnOk P w K mg base CX0 2 (ga K "_law_one") fdO ["_law_well_here", "_law_some"] (spOne K) := ok_one FO FD T.m_l_draw T.g_int T.g_len
  refine F.ok scBen (fun vs H Q E h => ?_) (fun cdv A outer s H vs Q E hr h => ?_)
  · obtain ⟨_, _, _, _, _, rfl, _⟩ := h
    rfl
  refine ⟨_, PSs.nox (pss_cons (ps_set (i := 3) scBen.nd rfl (Or.inl rfl) (pe_call GD (hr.mono (by decide)) (by rfl) T.m_l_draw FD.kp (bDrw FD) .nil pass0 (pa_cons (pv 0) (pa_cons pe_int pa_nil))))
    (pss_cons (ps_if (pt_cmpR op_eq (pv 3) pe_int (nomark _)) (pss_one (ps_ret (pe_tup (pa_cons (pe_call GO (hr.mono (by decide)) (by rfl) T.m_l_one FO.kp (bOne FO) .nil pass0 (pa_cons (pv 0) (pa_cons (pe_lst (pa_cons pe_non (pa_cons pe_int (pa_cons pe_str (pa_cons pe_dnewK (pa_cons pe_bl pa_nil)))))) pa_nil))) (pa_cons (pe_un un_neg pe_int) pa_nil))))) pss_nil)
    (pss_cons (ps_if (PW.pt (pw_and (pt_cmpR op_eq (pv 3) pe_int (nomark _)) (pw_and1 (pt_cmpR (op_neB (rnB_list monB_flat eqB_flat) (hr.mono (by decide))) (pv 1) (pe_lst pa_nil) (nomark _)))))
      (pss_one (ps_ret (pe_tup (pa_cons (pe_op op_catR (pv 1) (pe_lst (pa_cons (pe_call GO (hr.mono (by decide)) (by rfl) T.m_l_one FO.kp (bOne FO) .nil pass0 (pa_cons (pv 0) (pa_cons (pv 1) pa_nil))) pa_nil))) (pa_cons (pe_callB call_len_seq (by rfl) T.g_len boot_len (pa_cons (pv 1) pa_nil)) pa_nil))))) pss_nil)
    (pss_cons (ps_set (i := 4) scBen.nd rfl (Or.inl rfl) (pe_call GD (hr.mono (by decide)) (by rfl) T.m_l_draw FD.kp (bDrw FD) .nil pass0 (pa_cons (pv 0) (pa_cons (pe_op op_add (pe_callB call_len_seq (by rfl) T.g_len boot_len (pa_cons (pv 1) pa_nil)) pe_int) pa_nil))))
    (pss_one (ps_ret (pe_tup (pa_cons (pe_op op_catR (pe_op op_catR (pe_slice sl_list (pv 1) po_none (po_some (pv 4))) (pe_lst (pa_cons (pe_call GO (hr.mono (by decide)) (by rfl) T.m_l_one FO.kp (bOne FO) .nil pass0 (pa_cons (pv 0) (pa_cons (pv 2) pa_nil))) pa_nil))) (pe_slice sl_list (pv 1) (po_some (pv 4)) po_none)) (pa_cons (pv 4) pa_nil))))))))), ?_⟩
  obtain ⟨p, r, b, xs, ys, rfl, wl, hxs, rp, hys, bp, y0, y1, x1, kA, kB, kC⟩ := h
  have big : 1000 < sizeLine := by decide
  refine ⟨_, rfl, p, 4, rfl, wl, by decide, by decide, fun H1 d d0 d1 w1 b1 => ?_⟩
  have hxs1 := b1 _ _ rp hxs
  have hys1 := b1 _ _ bp hys
  refine ⟨_, rfl, rfl, _, rfl, ?_⟩
  by_cases e0 : d = 0
  · rw [show decide (V.int d = V.int 0) = true by simp [e0]]
    refine iteT ⟨_, rfl, fun q nq => ⟨(show 5 ≤ sizeLine by decide), fun L nL => ?_⟩⟩
    have Sq := Same.new (o := .dK []) nq
    have SL := Same.new (o := .lst [.non, .int 5, .str "rows", .ref q, .bl true]) nL
    have hq : upd (upd H1 q (.dK [])) L (.lst [.non, .int 5, .str "rows", .ref q, .bl true]) q = some (.dK []) := SL _ _ upd_same
    have w2 := (w1.same Sq).same SL
    refine ⟨p, L, _, rfl, w2, (w1.same Sq).new nL, upd_same, (by show 0 < 5; decide), (by show 5 < 1073741824; decide), fun G v hv w3 b3 => ⟨_, rfl, (show 2 ≤ sizeLine by decide), fun t nt => ?_⟩⟩
    have St := Same.new (o := .tup [v, .int (-1)]) nt
    have hqG : G q = some (.dK []) := b3 _ _ (fun z => by
      obtain ⟨_, _, _, w2⟩ := w2
      rw [← z] at w2
      rw [w2] at hq
      cases hq) hq
    refine kA v t _ (w3.same St) ((((b1.trans (But.of Sq)).trans (But.of SL)).trans b3).trans (But.of St)) ?_ upd_same
    have hqT : upd G t (.tup [v, .int (-1)]) q = some (.dK []) := St _ _ hqG
    have qn : H q = none := by
      cases eq : H q with
      | none => rfl
      | some o =>
        by_cases z : q = p
        · obtain ⟨_, _, _, w⟩ := w1
          rw [z, w] at nq
          cases nq
        · have := b1 _ _ z eq
          rw [nq] at this
          cases this
    intro G' bx
    simp only [List.mem_cons, List.not_mem_nil, or_false] at hv
    rcases hv with rfl | rfl | rfl | rfl | rfl
    · exact noSq_of .non (fun _ z => by cases z) (fun _ z => by cases z)
    · exact noSq_of .int (fun _ z => by cases z) (fun _ z => by cases z)
    · exact noSq_of .str (fun _ z => by cases z) (fun _ z => by cases z)
    · exact noSq_of (.dct (bx _ _ qn hqT (fun _ z => by cases z))) (fun _ z => by cases z) (fun _ z => by cases z)
    · exact noSq_of .bl (fun _ z => by cases z) (fun _ z => by cases z)
  rw [show decide (V.int d = V.int 0) = false by simp [e0]]
  refine iteF ⟨_, rfl, rfl, _, rfl, ?_⟩
  -- one of a list
  have one : ∀ {G : Hp} {l : Addr} {zs : List V} {R : VK}, Well G p → But p H G → l ≠ p → H l = some (.lst zs) → 0 < zs.length → zs.length ≤ 100 → (∀ (G' : Hp) (x : V), x ∈ zs → Well G' p → But p G G' → R x G') → spOne K [.ref p, .ref l] G R E0 := fun {G l zs R} wG bG lp hz z0 z1 kk =>
    ⟨p, l, zs, rfl, wG, lp, bG _ _ lp hz, z0, by omega, fun G' x hx w' b' => kk G' x hx w' b'⟩
  clear hxs hys
  by_cases e1 : d = 1
  case' neg =>
    rw [show decide (V.int d = V.int 1) = false by simp [e1]]
    have w2 := w1
    have b2 := b1
    have hxs2 := hxs1
    have hys2 := hys1
    refine iteF ?_
  case' pos =>
    rw [show decide (V.int d = V.int 1) = true by simp [e1]]
    refine iteT ⟨_, rfl, (show 0 ≤ sizeLine by decide), fun q nq => ?_⟩
    have Sq := Same.new (o := .lst []) nq
    refine ⟨_, ⟨r, q, xs, [], [], rfl, rfl, Sq _ _ hxs1, upd_same, PrsB.nil', rfl⟩, fun G2 S2 => ⟨_, rfl, ?_⟩⟩
    have Sx : Same H1 G2 := Sq.trans S2
    have w2 := w1.same Sx
    have b2 := b1.trans (But.of Sx)
    have hxs2 := Sx _ _ hxs1
    have hys2 := Sx _ _ hys1
    cases ex : ansB [] xs.length ([] : List V).length
  case' pos.true =>
    refine iteF ?_
  case pos.false =>
    have x0 : 0 < xs.length := by
      cases xs with
      | nil => cases ex
      | cons => simp
    refine iteT ⟨_, rfl, _, rfl, _, rfl, p, r, xs, rfl, w2, rp, hxs2, x0, by omega, fun G3 x hx w3 b3 => ⟨(show 1 ≤ sizeLine by decide), fun q2 nq2 => ?_⟩⟩
    have S2' := Same.new (o := .lst [x]) nq2
    have hq2 := upd_same (H := G3) (a := q2) (o := .lst [x])
    have hxs3 := S2' _ _ (b3 _ _ rp hxs2)
    refine ⟨r, q2, xs, [x], rfl, rfl, SqL.of hxs3, SqL.of hq2, (by show xs.length + 1 ≤ sizeLine; omega), fun D nD => ?_⟩
    have SD := Same.new (o := .lst (xs ++ [x])) nD
    refine ⟨_, rfl, r, xs, rfl, .inl (SqL.of (SD _ _ hxs3)), (show 2 ≤ sizeLine by decide), fun t nt => ?_⟩
    have St := Same.new (o := .tup [.ref D, .int (xs.length : Nat)]) nt
    have SS := (S2'.trans SD).trans St
    have dn : H D = none := by
      cases eD : H D with
      | none => rfl
      | some o =>
        by_cases q : D = p
        · obtain ⟨_, _, _, w⟩ := w3.same S2'
          rw [q, w] at nD
          cases nD
        · have := S2' _ _ (b3 _ _ q (b2 _ _ q eD))
          rw [nD] at this
          cases this
    exact kB x hx D t _ (w3.same SS) ((b2.trans b3).trans (But.of SS)) dn (St _ _ upd_same) upd_same
  all_goals
    refine ⟨_, rfl, _, rfl, r, xs, rfl, .inl (SqL.of hxs2), _, _, rfl, rfl, p, ((xs.length : Nat) : Int) + 1, rfl, w2, by omega, by omega, fun G3 d3 f0 f1 w3 b3 => ?_⟩
    obtain ⟨i, rfl, li⟩ : ∃ i : Nat, d3 = (i : Int) ∧ i ≤ xs.length := ⟨d3.toNat, by omega, by omega⟩
    have hxs3 := b3 _ _ rp hxs2
    have hys3 := b3 _ _ bp hys2
    refine ⟨_, rfl, _, rfl, _, rfl, r, xs, rfl, SqL.of hxs3, fun u nu => ?_⟩
    rw [cut_take li]
    have Su := Same.new (o := .lst (xs.take i)) nu
    have hu := upd_same (H := G3) (a := u) (o := .lst (xs.take i))
    have up : u ≠ p := w3.new nu
    have w4 := w3.same Su
    have hxs4 := Su _ _ hxs3
    have hys4 := Su _ _ hys3
    generalize upd G3 u (.lst (xs.take i)) = G4 at Su hu w4 hxs4 hys4 ⊢
    refine ⟨_, rfl, _, rfl, p, b, ys, rfl, w4, bp, hys4, y0, by omega, fun G5 y hy w5 b5 => ⟨(show 1 ≤ sizeLine by decide), fun q2 nq2 => ?_⟩⟩
    have S2' := Same.new (o := .lst [y]) nq2
    have hq2 := upd_same (H := G5) (a := q2) (o := .lst [y])
    have hu5 := S2' _ _ (b5 _ _ up hu)
    have hxs5 := S2' _ _ (b5 _ _ rp hxs4)
    have w6 := w5.same S2'
    generalize upd G5 q2 (.lst [y]) = G6 at S2' hq2 hu5 hxs5 w6 ⊢
    have lt : (xs.take i).length ≤ 100 := by rw [List.length_take]; omega
    refine ⟨u, q2, xs.take i, [y], rfl, rfl, SqL.of hu5, SqL.of hq2, (by show (xs.take i).length + 1 ≤ sizeLine; omega), fun q3 nq3 => ?_⟩
    have S3 := Same.new (o := .lst (xs.take i ++ [y])) nq3
    have hq3 := upd_same (H := G6) (a := q3) (o := .lst (xs.take i ++ [y]))
    have hxs6 := S3 _ _ hxs5
    have w7 := w6.same S3
    generalize upd G6 q3 (.lst (xs.take i ++ [y])) = G7 at S3 hq3 hxs6 w7 ⊢
    refine ⟨_, rfl, _, rfl, _, rfl, r, xs, rfl, SqL.of hxs6, fun q4 nq4 => ?_⟩
    rw [cut_dropN li]
    have S4 := Same.new (o := .lst (xs.drop i)) nq4
    have hq4 := upd_same (H := G7) (a := q4) (o := .lst (xs.drop i))
    have hq3' := S4 _ _ hq3
    have w8 := w7.same S4
    generalize upd G7 q4 (.lst (xs.drop i)) = G8 at S4 hq4 hq3' w8 ⊢
    refine ⟨q3, q4, xs.take i ++ [y], xs.drop i, rfl, rfl, SqL.of hq3', SqL.of hq4, ?_, fun D nD => ?_⟩
    · rw [List.length_append, List.length_drop]
      show (xs.take i).length + 1 + (xs.length - i) ≤ sizeLine
      omega
    have SD := Same.new (o := .lst (xs.take i ++ [y] ++ xs.drop i)) nD
    refine ⟨_, rfl, (show 2 ≤ sizeLine by decide), fun t nt => ?_⟩
    have St := Same.new (o := .tup [.ref D, .int (i : Nat)]) nt
    have b8 : But p H G8 := (((b2.trans b3).trans (But.of Su)).trans b5).trans (But.of ((S2'.trans S3).trans S4))
    have dn : H D = none := by
      cases eD : H D with
      | none => rfl
      | some o =>
        by_cases q : D = p
        · obtain ⟨_, _, _, w⟩ := w8
          rw [q, w] at nD
          cases nD
        · have := b8 _ _ q eD
          rw [nD] at this
          cases this
    exact kC y hy i li D t _ (w8.same (SD.trans St)) (b8.trans (But.of (SD.trans St))) dn (St _ _ upd_same) upd_same
end
end K09

set_option maxRecDepth 100000
set_option maxHeartbeats 4000000
namespace K09
open PySem PySem.Spec PyProof.Rows L2 He VH RZ
open LamX (Fx)
/-! one part replaced: what is told -/
inductive Par where
  | w (r : Option (List V × List (Option Str)))
  | f (r : Option Addr)
  | p (r : Option (List V × List (Option Ph)))
  | wk (r : Option Int)
  | hd (r : Option Int)
  | b (r : Option (List V × List (Option (Int × Int))))
def Par.ix : Par → Nat
  | .w _ => 0
  | .f _ => 1
  | .p _ => 2
  | .wk _ => 3
  | .hd _ => 4
  | .b _ => 5
def names6 : List Str := ["writers", "fill", "phases", "workers", "hands", "back"]
def Par.name : Par → Str
  | .w _ => "writers"
  | .f _ => "fill"
  | .p _ => "phases"
  | .wk _ => "workers"
  | .hd _ => "hands"
  | .b _ => "back"
def Par.At (K : PySem.W.Frag) (H : Hp) (x : V) : Par → Prop
  | .w r => isSq (IsWr K) K H x r
  | .f r => isFl K H x r
  | .p r => isSq (IsPh K) K H x r
  | .wk r => isIS K H x r
  | .hd r => isIS K H x r
  | .b r => isSq (WyO K) K H x r
theorem Par.At.same {K : PySem.W.Frag} {H H' : Hp} {x : V} (s : Same H H') : ∀ {q : Par}, q.At K H x → q.At K H' x
  | .w _, h => isSq.same s (fun _ _ h => h.same s) h
  | .f _, h => isFl.same s h
  | .p _, h => isSq.same s (fun _ _ h => h.same s) h
  | .wk _, h => fun G g => h G (s.trans g)
  | .hd _, h => fun G g => h G (s.trans g)
  | .b _, h => isSq.same s (fun _ _ h => h.same s) h
def Bnt.put (t : Bnt) : Par → Bnt
  | .w r => { t with w := r }
  | .f r => { t with f := r }
  | .p r => { t with p := r }
  | .wk r => { t with wk := r }
  | .hd r => { t with hd := r }
  | .b r => { t with b := r }
/-- a list of six parts -/
def BntL (K : PySem.W.Frag) (H : Hp) (xs : List V) (t : Bnt) : Prop := ∃ x0 x1 x2 x3 x4 x5, xs = [x0, x1, x2, x3, x4, x5] ∧ BntAt K H x0 x1 x2 x3 x4 x5 t
theorem BntL.put {K : PySem.W.Frag} {H : Hp} {xs : List V} {t : Bnt} {x : V} (h : BntL K H xs t) : ∀ {q : Par}, q.At K H x → BntL K H (xs.set q.ix x) (t.put q)
  | .w _, q => by obtain ⟨x0, x1, x2, x3, x4, x5, rfl, b⟩ := h; exact ⟨x, x1, x2, x3, x4, x5, rfl, q, b.f, b.p, b.wk, b.hd, b.b⟩
  | .f _, q => by obtain ⟨x0, x1, x2, x3, x4, x5, rfl, b⟩ := h; exact ⟨x0, x, x2, x3, x4, x5, rfl, b.w, q, b.p, b.wk, b.hd, b.b⟩
  | .p _, q => by obtain ⟨x0, x1, x2, x3, x4, x5, rfl, b⟩ := h; exact ⟨x0, x1, x, x3, x4, x5, rfl, b.w, b.f, q, b.wk, b.hd, b.b⟩
  | .wk _, q => by obtain ⟨x0, x1, x2, x3, x4, x5, rfl, b⟩ := h; exact ⟨x0, x1, x2, x, x4, x5, rfl, b.w, b.f, b.p, q, b.hd, b.b⟩
  | .hd _, q => by obtain ⟨x0, x1, x2, x3, x4, x5, rfl, b⟩ := h; exact ⟨x0, x1, x2, x3, x, x5, rfl, b.w, b.f, b.p, b.wk, q, b.b⟩
  | .b _, q => by obtain ⟨x0, x1, x2, x3, x4, x5, rfl, b⟩ := h; exact ⟨x0, x1, x2, x3, x4, x, rfl, b.w, b.f, b.p, b.wk, b.hd, q⟩
theorem BntL.same {K : PySem.W.Frag} {H H' : Hp} {xs : List V} {t : Bnt} (h : BntL K H xs t) (s : Same H H') : BntL K H' xs t := by
  obtain ⟨x0, x1, x2, x3, x4, x5, e, b⟩ := h
  exact ⟨x0, x1, x2, x3, x4, x5, e, b.same s⟩
/-! what each part is told to be -/
def eW (t : Bnt) : Option Int := match t.w with
  | none => some (-1)
  | some (ws, zs) => if 1 ≤ ws.length ∧ ws.length ≤ 4 then (badN zs).map fun k : Nat => (k : Int) else some (-1)
def eF (t : Bnt) : Option Int := match t.f with
  | none => some (-1)
  | some _ => none
def knW (t : Bnt) : List Str := match t.w with
  | none => []
  | some (_, zs) => zs.filterMap id
def eP (t : Bnt) : Option Int := match t.p with
  | none => some (-1)
  | some (ps, ds) => if 1 ≤ ps.length ∧ ps.length ≤ 6 then (badP ds (knW t)).map fun k : Nat => (k : Int) else some (-1)
def eK (t : Bnt) : Option Int := if btwB t.wk 1 2 = true then none else some (-1)
def eH (t : Bnt) : Option Int := if btwB t.hd 0 2 = true then none else some (-1)
def lnP (t : Bnt) : Nat := match t.p with
  | none => 0
  | some (ps, _) => ps.length
def eB (t : Bnt) : Option Int := match t.b with
  | none => some (-1)
  | some (_, rs) => (badY rs (lnP t)).map fun k : Nat => (k : Int)
def tg (u : Str) (e : Option Int) (r : Option (Str × Int)) : Option (Str × Int) := match e with
  | some i => some (u, i)
  | none => r
theorem bad_chain (t : Bnt) : t.bad = tg "writers" (eW t) (tg "fill" (eF t) (tg "phases" (eP t) (tg "workers" (eK t) (tg "hands" (eH t) (tg "back" (eB t) none))))) := by
  obtain ⟨w, f, p, wk, hd, b⟩ := t
  have c2 : ∀ n : Nat, lnP ⟨w, f, p, wk, hd, b⟩ = n → Bnt.bad2 ⟨w, f, p, wk, hd, b⟩ n = tg "workers" (eK ⟨w, f, p, wk, hd, b⟩) (tg "hands" (eH ⟨w, f, p, wk, hd, b⟩) (tg "back" (eB ⟨w, f, p, wk, hd, b⟩) none)) := fun n e => by
    unfold Bnt.bad2 eK eH eB
    rw [e]
    dsimp only
    by_cases h1 : btwB wk 1 2 = true
    · rw [if_pos h1, if_pos h1]
      by_cases h2 : btwB hd 0 2 = true
      · rw [if_pos h2, if_pos h2]
        cases b with
        | none => rfl
        | some q =>
          obtain ⟨bs, rs⟩ := q
          dsimp only
          cases badY rs (n : Nat) <;> rfl
      · rw [if_neg h2, if_neg h2]
        rfl
    · rw [if_neg h1, if_neg h1]
      rfl
  have c1 : ∀ kn : List Str, knW ⟨w, f, p, wk, hd, b⟩ = kn → Bnt.bad1 ⟨w, f, p, wk, hd, b⟩ kn = tg "fill" (eF ⟨w, f, p, wk, hd, b⟩) (tg "phases" (eP ⟨w, f, p, wk, hd, b⟩) (tg "workers" (eK ⟨w, f, p, wk, hd, b⟩) (tg "hands" (eH ⟨w, f, p, wk, hd, b⟩) (tg "back" (eB ⟨w, f, p, wk, hd, b⟩) none)))) := fun kn e => by
    unfold Bnt.bad1 eF eP
    rw [e]
    dsimp only
    cases f with
    | none => rfl
    | some fa =>
      cases p with
      | none => rfl
      | some q =>
        obtain ⟨ps, ds⟩ := q
        dsimp only
        by_cases h : 1 ≤ ps.length ∧ ps.length ≤ 6
        · rw [if_pos h, if_pos h]
          cases badP ds kn with
          | some k => rfl
          | none => exact c2 _ rfl
        · rw [if_neg h, if_neg h]
          rfl
  unfold Bnt.bad eW
  dsimp only
  cases w with
  | none => rfl
  | some q =>
    obtain ⟨ws, zs⟩ := q
    dsimp only
    by_cases h : 1 ≤ ws.length ∧ ws.length ≤ 4
    · rw [if_pos h, if_pos h]
      cases badN zs with
      | some k => rfl
      | none => exact c1 _ rfl
    · rw [if_neg h, if_neg h]
      rfl
/-- nothing is wrong -/
structure Good (t : Bnt) : Prop where
  w : eW t = none
  f : eF t = none
  p : eP t = none
  wk : eK t = none
  hd : eH t = none
  b : eB t = none
theorem Good.bad {t : Bnt} (g : Good t) : t.bad = none := by
  rw [bad_chain, g.w, g.f, g.p, g.wk, g.hd, g.b]
  rfl
/-- what the part itself is told to be, with the others as in t -/
def eQ (t : Bnt) : Par → Option Int
  | .w r => eW (t.put (.w r))
  | .f r => eF (t.put (.f r))
  | .p r => eP (t.put (.p r))
  | .wk r => eK (t.put (.wk r))
  | .hd r => eH (t.put (.hd r))
  | .b r => eB (t.put (.b r))
theorem spoils1 {t : Bnt} (g : Good t) : ∀ {q : Par} {i : Int}, eQ t q = some i → (t.put q).bad = some (q.name, i)
  | .w r, i, e => by
    rw [bad_chain, show eW (t.put (.w r)) = some i from e]
    rfl
  | .f r, i, e => by
    rw [bad_chain, show eF (t.put (.f r)) = some i from e, show eW (t.put (.f r)) = eW t from rfl, g.w]
    rfl
  | .p r, i, e => by
    rw [bad_chain, show eP (t.put (.p r)) = some i from e, show eW (t.put (.p r)) = eW t from rfl, show eF (t.put (.p r)) = eF t from rfl, g.w, g.f]
    rfl
  | .wk r, i, e => by
    rw [bad_chain, show eK (t.put (.wk r)) = some i from e, show eW (t.put (.wk r)) = eW t from rfl, show eF (t.put (.wk r)) = eF t from rfl, show eP (t.put (.wk r)) = eP t from rfl, g.w, g.f, g.p]
    rfl
  | .hd r, i, e => by
    rw [bad_chain, show eH (t.put (.hd r)) = some i from e, show eW (t.put (.hd r)) = eW t from rfl, show eF (t.put (.hd r)) = eF t from rfl, show eP (t.put (.hd r)) = eP t from rfl, show eK (t.put (.hd r)) = eK t from rfl, g.w, g.f, g.p, g.wk]
    rfl
  | .b r, i, e => by
    rw [bad_chain, show eB (t.put (.b r)) = some i from e, show eW (t.put (.b r)) = eW t from rfl, show eF (t.put (.b r)) = eF t from rfl, show eP (t.put (.b r)) = eP t from rfl, show eK (t.put (.b r)) = eK t from rfl, show eH (t.put (.b r)) = eH t from rfl, g.w, g.f, g.p, g.wk, g.hd]
    rfl
/-- a part behind it changes nothing -/
theorem spoils2 {t : Bnt} (g : Good t) {q q2 : Par} {i : Int} (e : eQ t q = some i) (l : q.ix < q2.ix) : ((t.put q).put q2).bad = some (q.name, i) := by
  have e1 := spoils1 g e
  rw [bad_chain] at e1 ⊢
  have no : ∀ {a b : Nat}, ¬ a < b → a < b → False := fun h k => h k
  cases q with
  | w r => cases q2 with
    | w r2 => simp [Par.ix] at l
    | f r2 => rw [show eW ((t.put (.w r)).put (.f r2)) = some i from e]; rfl
    | p r2 => rw [show eW ((t.put (.w r)).put (.p r2)) = some i from e]; rfl
    | wk r2 => rw [show eW ((t.put (.w r)).put (.wk r2)) = some i from e]; rfl
    | hd r2 => rw [show eW ((t.put (.w r)).put (.hd r2)) = some i from e]; rfl
    | b r2 => rw [show eW ((t.put (.w r)).put (.b r2)) = some i from e]; rfl
  | f r => cases q2 with
    | w r2 => simp [Par.ix] at l
    | f r2 => simp [Par.ix] at l
    | p r2 => rw [show eF ((t.put (.f r)).put (.p r2)) = some i from e, show eW ((t.put (.f r)).put (.p r2)) = eW t from rfl, g.w]; rfl
    | wk r2 => rw [show eF ((t.put (.f r)).put (.wk r2)) = some i from e, show eW ((t.put (.f r)).put (.wk r2)) = eW t from rfl, g.w]; rfl
    | hd r2 => rw [show eF ((t.put (.f r)).put (.hd r2)) = some i from e, show eW ((t.put (.f r)).put (.hd r2)) = eW t from rfl, g.w]; rfl
    | b r2 => rw [show eF ((t.put (.f r)).put (.b r2)) = some i from e, show eW ((t.put (.f r)).put (.b r2)) = eW t from rfl, g.w]; rfl
  | p r => cases q2 with
    | w r2 => simp [Par.ix] at l
    | f r2 => simp [Par.ix] at l
    | p r2 => simp [Par.ix] at l
    | wk r2 => rw [show eP ((t.put (.p r)).put (.wk r2)) = some i from e, show eW ((t.put (.p r)).put (.wk r2)) = eW t from rfl, show eF ((t.put (.p r)).put (.wk r2)) = eF t from rfl, g.w, g.f]; rfl
    | hd r2 => rw [show eP ((t.put (.p r)).put (.hd r2)) = some i from e, show eW ((t.put (.p r)).put (.hd r2)) = eW t from rfl, show eF ((t.put (.p r)).put (.hd r2)) = eF t from rfl, g.w, g.f]; rfl
    | b r2 => rw [show eP ((t.put (.p r)).put (.b r2)) = some i from e, show eW ((t.put (.p r)).put (.b r2)) = eW t from rfl, show eF ((t.put (.p r)).put (.b r2)) = eF t from rfl, g.w, g.f]; rfl
  | wk r => cases q2 with
    | w r2 => simp [Par.ix] at l
    | f r2 => simp [Par.ix] at l
    | p r2 => simp [Par.ix] at l
    | wk r2 => simp [Par.ix] at l
    | hd r2 => rw [show eK ((t.put (.wk r)).put (.hd r2)) = some i from e, show eW ((t.put (.wk r)).put (.hd r2)) = eW t from rfl, show eF ((t.put (.wk r)).put (.hd r2)) = eF t from rfl, show eP ((t.put (.wk r)).put (.hd r2)) = eP t from rfl, g.w, g.f, g.p]; rfl
    | b r2 => rw [show eK ((t.put (.wk r)).put (.b r2)) = some i from e, show eW ((t.put (.wk r)).put (.b r2)) = eW t from rfl, show eF ((t.put (.wk r)).put (.b r2)) = eF t from rfl, show eP ((t.put (.wk r)).put (.b r2)) = eP t from rfl, g.w, g.f, g.p]; rfl
  | hd r => cases q2 with
    | w r2 => simp [Par.ix] at l
    | f r2 => simp [Par.ix] at l
    | p r2 => simp [Par.ix] at l
    | wk r2 => simp [Par.ix] at l
    | hd r2 => simp [Par.ix] at l
    | b r2 => rw [show eH ((t.put (.hd r)).put (.b r2)) = some i from e, show eW ((t.put (.hd r)).put (.b r2)) = eW t from rfl, show eF ((t.put (.hd r)).put (.b r2)) = eF t from rfl, show eP ((t.put (.hd r)).put (.b r2)) = eP t from rfl, show eK ((t.put (.hd r)).put (.b r2)) = eK t from rfl, g.w, g.f, g.p, g.wk]; rfl
  | b r => cases q2 <;> simp [Par.ix] at l
/-- drawn parts are right -/
theorem Rd.good {d : Rd} (h : d.ro.Ok) {ws ps bs : List V} {fa : Addr} (lw : ws.length = d.ws.length) (lp : ps.length = d.ds.length) : Good (d.bnt ws ps bs fa) where
  w := by
    show (if 1 ≤ ws.length ∧ ws.length ≤ 4 then (badN ((d.ws.map (·.1)).map some)).map fun k : Nat => (k : Int) else some (-1)) = none
    have z1 := h.z1
    have z4 := h.z4
    have l : d.ro.zs.length = d.ws.length := List.length_map _
    rw [if_pos ⟨by omega, by omega⟩, show badN ((d.ws.map (·.1)).map some) = none from h.zn]
    rfl
  f := rfl
  p := by
    show (if 1 ≤ ps.length ∧ ps.length ≤ 6 then (badP (d.ds.map some) (((d.ws.map (·.1)).map some).filterMap id)).map fun k : Nat => (k : Int) else some (-1)) = none
    have p1 : 1 ≤ d.ds.length := h.p1
    have p6 : d.ds.length ≤ 6 := h.p6
    rw [if_pos ⟨by omega, by omega⟩, List.filterMap_map]
    rw [show List.filterMap (id ∘ some) (d.ws.map (·.1)) = (d.ws.map (·.1)).filterMap some from rfl, List.filterMap_some, show badP (d.ds.map some) (d.ws.map (·.1)) = none from h.pn]
    rfl
  wk := by
    show (if btwB (some d.wk) 1 2 = true then none else some (-1)) = none
    have a : 1 ≤ d.wk := h.w1
    have b : d.wk ≤ 2 := h.w2
    rw [if_pos (by simp [btwB, a, b])]
  hd := by
    show (if btwB (some d.hd) 0 2 = true then none else some (-1)) = none
    have a : 0 ≤ d.hd := h.h0
    have b : d.hd ≤ 2 := h.h2
    rw [if_pos (by simp [btwB, a, b])]
  b := by
    show (badY (d.rs.map some) ((ps.length : Nat) : Int)).map (fun k : Nat => (k : Int)) = none
    rw [lp, show badY (d.rs.map some) (d.ds.length : Nat) = none from h.bn]
    rfl
end K09

set_option maxRecDepth 100000
set_option maxHeartbeats 4000000
namespace K09
open PySem PySem.Spec PyProof.Rows L2 He VH RZ
open LamX (Fx)
/-! what a bent part is -/
/-- a part that lives on while the well changes -/
def ParS (K : PySem.W.Frag) (p : Addr) (H : Hp) (x : V) (q : Par) : Prop := ∀ H', Bx p H H' → q.At K H' x
theorem ParS.bx {K : PySem.W.Frag} {p : Addr} {H H' : Hp} {x : V} {q : Par} (h : ParS K p H x q) (b : Bx p H H') : ParS K p H' x q := fun G g => h G (b.trans g)
theorem ParS.here {K : PySem.W.Frag} {p : Addr} {H : Hp} {x : V} {q : Par} (h : ParS K p H x q) : q.At K H x := h H fun _ _ _ e _ => e
/-- an item put in -/
def insL {α : Type} (i : Nat) (x : α) (l : List α) : List α := l.take i ++ [x] ++ l.drop i
theorem insL_len {α : Type} {i : Nat} {x : α} {l : List α} (h : i ≤ l.length) : (insL i x l).length = l.length + 1 := by
  unfold insL
  rw [List.length_append, List.length_append, List.length_take, List.length_drop]
  show min i l.length + 1 + (l.length - i) = l.length + 1
  omega
theorem insL_take {α : Type} {i m : Nat} {x : α} {l : List α} (h : i ≤ l.length) (hm : m ≤ i) : (insL i x l).take m = l.take m := by
  unfold insL
  rw [List.append_assoc, List.take_append_of_le_length (by rw [List.length_take]; omega), List.take_take, Nat.min_eq_left hm]
theorem insL_at {α : Type} {i : Nat} {x : α} {l : List α} (h : i ≤ l.length) : (insL i x l)[i]? = some x := by
  unfold insL
  have e : (l.take i).length = i := by rw [List.length_take]; omega
  rw [List.append_assoc, List.getElem?_append_right (by omega), e, Nat.sub_self]
  rfl
theorem insL_map {α β : Type} (f : α → β) (i : Nat) (x : α) (l : List α) : (insL i x l).map f = insL i (f x) (l.map f) := by
  unfold insL
  rw [List.map_append, List.map_append, List.map_take, List.map_drop]
  rfl
theorem Each.take {α : Type} {p : Hp → V → α → Prop} {H : Hp} {xs : List V} {zs : List α} (h : Each p H xs zs) (i : Nat) : Each p H (xs.take i) (zs.take i) := by
  refine ⟨by rw [List.length_take, List.length_take, h.1], fun k x e => ?_⟩
  have l := (List.getElem?_eq_some_iff.mp e).1
  rw [List.length_take] at l
  rw [List.getElem?_take_of_lt (by omega)] at e ⊢
  exact h.2 k x e
theorem Each.drop {α : Type} {p : Hp → V → α → Prop} {H : Hp} {xs : List V} {zs : List α} (h : Each p H xs zs) (i : Nat) : Each p H (xs.drop i) (zs.drop i) := by
  refine ⟨by rw [List.length_drop, List.length_drop, h.1], fun k x e => ?_⟩
  rw [List.getElem?_drop] at e ⊢
  exact h.2 _ x e
theorem Each.ins {α : Type} {p : Hp → V → α → Prop} {H : Hp} {xs : List V} {zs : List α} (h : Each p H xs zs) {x : V} {z : α} (hx : p H x z) (i : Nat) : Each p H (insL i x xs) (insL i z zs) :=
  Each.app (Each.snoc (h.take i) hx) (h.drop i)
/-! the first one that is not right -/
theorem okN_pre {zs us : List (Option Str)} {m : Nat} (h : zs.take (m + 1) = us.take (m + 1)) : okN zs m = okN us m := by
  have e : zs[m]? = us[m]? := by
    have := congrArg (fun l => l[m]?) h
    simp only [List.getElem?_take_of_lt (Nat.lt_succ_self m)] at this
    exact this
  have t : zs.take m = us.take m := by
    have := congrArg (fun l => l.take m) h
    simp only [List.take_take, Nat.min_eq_left (Nat.le_succ m)] at this
    exact this
  unfold okN
  rw [e, t]
theorem okP_pre {zs us : List (Option Ph)} {kn : List Str} {m : Nat} (h : zs.take (m + 1) = us.take (m + 1)) : okP zs kn m = okP us kn m := by
  have e : zs[m]? = us[m]? := by
    have := congrArg (fun l => l[m]?) h
    simp only [List.getElem?_take_of_lt (Nat.lt_succ_self m)] at this
    exact this
  have t : zs.take m = us.take m := by
    have := congrArg (fun l => l.take m) h
    simp only [List.take_take, Nat.min_eq_left (Nat.le_succ m)] at this
    exact this
  unfold okP
  rw [e, t]
theorem okY_pre {zs us : List (Option (Int × Int))} {n : Int} {m : Nat} (h : zs.take (m + 1) = us.take (m + 1)) : okY zs n m = okY us n m := by
  have e : zs[m]? = us[m]? := by
    have := congrArg (fun l => l[m]?) h
    simp only [List.getElem?_take_of_lt (Nat.lt_succ_self m)] at this
    exact this
  have t : zs.take m = us.take m := by
    have := congrArg (fun l => l.take m) h
    simp only [List.take_take, Nat.min_eq_left (Nat.le_succ m)] at this
    exact this
  unfold okY
  rw [e, t]
theorem find_ok {n : Nat} {ok : Nat → Bool} (h : (List.range n).find? (fun k => !ok k) = none) : ∀ k, k < n → ok k = true := find_none.mp h
/-- an item that is not right, put in -/
theorem badN_ins {zs : List (Option Str)} {i : Nat} (h : badN zs = none) (l : i ≤ zs.length) : badN (insL i none zs) = some i := by
  refine badN_some (by rw [insL_len l]; omega) ?_ fun m hm => ?_
  · unfold okN
    rw [insL_at l]
  · rw [okN_pre (us := zs) (insL_take l hm)]
    exact find_ok h m (by omega)
theorem badP_ins {zs : List (Option Ph)} {kn : List Str} {i : Nat} {r : Option Ph} (h : badP zs kn = none) (l : i ≤ zs.length) (no : ∀ e, r = some e → e.ws.all kn.contains = false) : badP (insL i r zs) kn = some i := by
  refine badP_some (by rw [insL_len l]; omega) ?_ fun m hm => ?_
  · unfold okP
    rw [insL_at l]
    cases r with
    | none => rfl
    | some e =>
      show (_ && e.ws.all kn.contains) = false
      rw [no e rfl, Bool.and_false]
  · rw [okP_pre (us := zs) (insL_take l hm)]
    exact find_ok h m (by omega)
theorem badY_ins {zs : List (Option (Int × Int))} {n : Int} {i : Nat} {r : Option (Int × Int)} (h : badY zs n = none) (l : i ≤ zs.length) (no : wayO r n = false) : badY (insL i r zs) n = some i := by
  refine badY_some (by rw [insL_len l]; omega) ?_ fun m hm => ?_
  · unfold okY
    rw [insL_at l]
    cases r with
    | none => rfl
    | some e =>
      show (wayB (some e.1) (some e.2) n && _) = false
      rw [show wayB (some e.1) (some e.2) n = false from no, Bool.false_and]
  · rw [okY_pre (us := zs) (insL_take l hm)]
    exact find_ok h m (by omega)
/-- one that stands there already, put behind -/
theorem take_app {α : Type} {zs us : List α} {m : Nat} (h : m ≤ zs.length) : (zs ++ us).take m = zs.take m := List.take_append_of_le_length h
theorem badN_dup {zs : List (Option Str)} {z : Str} (h : badN zs = none) (hz : some z ∈ zs) : badN (zs ++ [some z]) = some zs.length := by
  refine badN_some (by rw [List.length_append]; exact Nat.lt_succ_self _) ?_ fun m hm => ?_
  · unfold okN
    rw [List.getElem?_append_right (Nat.le_refl _), Nat.sub_self, take_app (Nat.le_refl _), List.take_length]
    show (!zs.contains (some z)) = false
    rw [List.contains_iff_mem.mpr hz]
    rfl
  · rw [okN_pre (us := zs) (take_app hm)]
    exact find_ok h m hm
theorem badP_dup {zs : List (Option Ph)} {kn : List Str} {e : Ph} (h : badP zs kn = none) (hz : some e ∈ zs) : badP (zs ++ [some e]) kn = some zs.length := by
  refine badP_some (by rw [List.length_append]; exact Nat.lt_succ_self _) ?_ fun m hm => ?_
  · unfold okP
    rw [List.getElem?_append_right (Nat.le_refl _), Nat.sub_self, take_app (Nat.le_refl _), List.take_length]
    show (!(phN zs).contains e.z && _) = false
    have : e.z ∈ phN zs := List.mem_filterMap.mpr ⟨some e, hz, rfl⟩
    rw [List.contains_iff_mem.mpr this]
    rfl
  · rw [okP_pre (us := zs) (take_app hm)]
    exact find_ok h m hm
theorem badY_dup {zs : List (Option (Int × Int))} {n : Int} {e : Int × Int} (h : badY zs n = none) (hz : some e ∈ zs) : badY (zs ++ [some e]) n = some zs.length := by
  refine badY_some (by rw [List.length_append]; exact Nat.lt_succ_self _) ?_ fun m hm => ?_
  · unfold okY
    rw [List.getElem?_append_right (Nat.le_refl _), Nat.sub_self, take_app (Nat.le_refl _), List.take_length]
    show (wayB _ _ n && !(zs.filterMap id).contains e) = false
    have : e ∈ zs.filterMap id := List.mem_filterMap.mpr ⟨some e, hz, rfl⟩
    rw [List.contains_iff_mem.mpr this, Bool.not_true, Bool.and_false]
  · rw [okY_pre (us := zs) (take_app hm)]
    exact find_ok h m hm
/-! what is no Writer, no Phase, no Fill -/
theorem kt_tr {K : PySem.W.Frag} {C : Str} (o : OwnC K C) (t : Tr) : PySem.W.kitOne K (.type (Ty1 t)) (.ref (ga K C)) = some false := by
  cases t with
  | non => exact (o.kt "NoneType" (by simp)).1
  | bl => exact (o.kt "bool" (by simp)).1
  | int => exact (o.kt "int" (by simp)).1
  | str => exact (o.kt "str" (by simp)).1
  | dct => exact (o.kt "dict" (by simp)).1
  | tup => exact (o.kt "tuple" (by simp)).1
  | lst => exact (o.kt "list" (by simp)).1
theorem noC_tr {K : PySem.W.Frag} {C : Str} (o : OwnC K C) {H : Hp} {x : V} {t : Tr} (h : At K H x t) : NoC K C H x := fun H' s => ⟨_, (h.same s).ty, kt_tr o t⟩
theorem noC_lst {K : PySem.W.Frag} {C : Str} (o : OwnC K C) {H : Hp} {a : Addr} {xs : List V} (h : H a = some (.lst xs)) : NoC K C H (.ref a) := fun H' s => ⟨_, sqL_ty (SqL.of (s _ _ h)), (o.kt "list" (by simp)).1⟩
theorem noC_ph {K : PySem.W.Frag} {mg : Str → Option Value} {w : World} (T : Txt K mg w) {C : Str} (hC : C ∈ (["Writer", "Fill", "Rollout"] : List Str)) {H : Hp} {x : V} {d : Ph} (h : PhX K H x d) : NoC K C H x := fun H' s => by
  obtain ⟨a, rfl, hp⟩ := h.same s
  refine ⟨_, PhAt.ty T hp, ?_⟩
  simp only [List.mem_cons, List.not_mem_nil, or_false] at hC
  rcases hC with rfl | rfl | rfl
  · exact T.kn "Phase" (by simp) "Writer" (by simp)
  · exact T.kn "Phase" (by simp) "Fill" (by simp)
  · exact T.kn "Phase" (by simp) "Rollout" (by simp)
theorem noC_wr {K : PySem.W.Frag} {mg : Str → Option Value} {w : World} (T : Txt K mg w) {C : Str} (hC : C ∈ (["Phase", "Fill", "Rollout"] : List Str)) {H : Hp} {x : V} {d : Str × List Tr} (h : WrX K H x d) : NoC K C H x := fun H' s => by
  obtain ⟨a, nb, rfl, ⟨xs, hw, _⟩, _⟩ := h.same s
  refine ⟨_, WrAt.ty T hw, ?_⟩
  simp only [List.mem_cons, List.not_mem_nil, or_false] at hC
  rcases hC with rfl | rfl | rfl
  · exact T.kn "Writer" (by simp) "Phase" (by simp)
  · exact T.kn "Writer" (by simp) "Fill" (by simp)
  · exact T.kn "Writer" (by simp) "Rollout" (by simp)
end K09

set_option maxRecDepth 100000
set_option maxHeartbeats 4000000
namespace K09
open PySem PySem.Spec PyProof.Rows L2 He VH RZ
open LamX (Fx)
/-! a name that no Writer has; Phases and a Writer made for no use -/
def strN (z : Str) : Str := if (z.length : Int) < 12 then z ++ "z" else cutS z none (some 11)
theorem nameB_iff {z : Str} : nameB z = true ↔ 1 ≤ z.cps.toList.length ∧ z.cps.toList.length ≤ 12 ∧ ∀ c ∈ z.cps.toList, c ∈ LET.cps.toList := by
  have e : z.length = z.cps.toList.length := by
    rw [Array.length_toList]
    rfl
  unfold nameB
  rw [e]
  simp only [Bool.and_eq_true, decide_eq_true_eq, List.all_eq_true]
  constructor
  · rintro ⟨a, b, c⟩
    exact ⟨by omega, by omega, c⟩
  · rintro ⟨a, b, c⟩
    exact ⟨by omega, by omega, c⟩
theorem strN_ok {z : Str} (h : nameB z = true) : nameB (strN z) = true ∧ fst1 (strN z) = fst1 z ∧ strN z ≠ z := by
  obtain ⟨a, b, c⟩ := nameB_iff.mp h
  have ez : z.length = z.cps.toList.length := by
    rw [Array.length_toList]
    rfl
  unfold strN
  by_cases l : (z.length : Int) < 12
  · rw [if_pos l]
    have e : (z ++ "z").cps.toList = z.cps.toList ++ [122] := by
      show (z.cps ++ ("z" : Str).cps).toList = _
      rw [Array.toList_append]
      rfl
    refine ⟨nameB_iff.mpr ⟨by rw [e, List.length_append]; omega, by rw [e, List.length_append]; show z.cps.toList.length + 1 ≤ 12; omega, fun k hk => ?_⟩, ?_, fun q => ?_⟩
    · rw [e] at hk
      rcases List.mem_append.mp hk with hk | hk
      · exact c k hk
      · rw [List.mem_singleton.mp hk]
        decide +kernel
    · unfold fst1
      rw [e, List.head?_append]
      cases hz : z.cps.toList with
      | nil => rw [hz] at a; simp at a
      | cons x xs => rfl
    · have := congrArg (fun s : Str => s.cps.toList.length) q
      simp only [e, List.length_append] at this
      simp at this
  · rw [if_neg l]
    have e : (cutS z none (some 11)).cps.toList = z.cps.toList.take 11 := by
      unfold cutS
      rw [HT.sIx_none, show (11 : Int) = ((11 : Nat) : Int) from rfl, HT.sIx_nat, Nat.min_eq_left (by omega)]
      rfl
    have l12 : z.cps.toList.length = 12 := by omega
    refine ⟨nameB_iff.mpr ⟨by rw [e, List.length_take]; omega, by rw [e, List.length_take]; omega, fun k hk => ?_⟩, ?_, fun q => ?_⟩
    · rw [e] at hk
      exact c k (List.mem_of_mem_take hk)
    · unfold fst1
      rw [e]
      cases hz : z.cps.toList with
      | nil => rw [hz] at a; simp at a
      | cons x xs => rfl
    · have := congrArg (fun s : Str => s.cps.toList.length) q
      simp only [e, List.length_take] at this
      omega
/-- no Writer is called so -/
theorem strN_new {zs : List Str} {z : Str} (h0 : zs[0]? = some z) (nm : ∀ z ∈ zs, nameB z = true) (fs : (zs.map fst1).Nodup) : zs.contains (strN z) = false := by
  rw [← Bool.not_eq_true, List.contains_iff_mem]
  intro m
  obtain ⟨o, f, ne⟩ := strN_ok (nm z (List.mem_of_getElem? h0))
  obtain ⟨j, lj, ej⟩ := List.mem_iff_getElem.mp m
  have l0 : 0 < zs.length := by omega
  unfold List.Nodup at fs
  rw [List.pairwise_map, List.pairwise_iff_getElem] at fs
  have e0 : zs[0] = z := by
    rw [List.getElem?_eq_getElem l0] at h0
    exact Option.some.inj h0
  by_cases q : j = 0
  · subst q
    rw [ej] at e0
    exact ne e0
  · exact fs 0 j l0 lj (by omega) (by rw [e0, ej]; exact f.symm)
theorem same_ins' {H : Hp} {x dx : Addr} {o o' : HO} (nx : H x = none) (nd : H dx = none) (ne : dx ≠ x) : Same H (upd (upd H dx o) x o') := same_ins nx nd ne
theorem isL_nil {K : PySem.W.Frag} {H : Hp} {a : Addr} {ok : List V → Bool} (h : ∀ H, SqT K H a []) (o : ok [] = true) : isL K H ok (.ref a) (some []) :=
  .inl ⟨a, [], rfl, .inr (h H), (fun x hx => absurd hx (by simp)), (by simp), by rw [if_pos o]⟩
section
variable {K : PySem.W.Frag} {mg : Str → Option Value} {w : World}
/-- Phase(z) -/
theorem mk_phN (T : Txt K mg w) {z : Str} (nz : nameB z = true) {G : Hp} {x dx : Addr} {R : VK} {E : XK} (nx : G x = none) (ndx : G dx = none) (ne : dx ≠ x) (k : ∀ H', Same G H' → PhX K H' (.ref x) ⟨z, [], false, [], []⟩ → R .non H') :
    spPhI K [.ref x, .str z, .ref (kwA ("Phase", some "__init__") "writers" K), .bl false, .ref (kwA ("Phase", some "__init__") "promises" K), .ref (kwA ("Phase", some "__init__") "waits" K)] (upd (upd G dx (.own x)) x (.ins (ga K "Phase") dx [])) R E :=
  ⟨x, dx, .str z, _, .bl false, _, _, some z, some [], some false, some [], some [], rfl, upd_same, .inl ⟨z, rfl, (name_lay nz).1, by rw [if_pos nz]⟩, isL_nil T.k_Phase_writers rfl, .inl ⟨false, rfl, rfl⟩, isL_nil T.k_Phase_promises rfl, isL_nil T.k_Phase_waits rfl,
    fun u e => absurd e (by simp [wrong]), fun z' ws' b' ps' qs' f0 f1 f2 f3 f4 H' bt at_ => by
      cases f0
      cases f1
      cases f2
      cases f3
      cases f4
      exact k H' (same_but (same_ins nx ndx ne) nx bt) ⟨x, rfl, at_⟩⟩
/-- Phase(z, writers = (u,)) -/
theorem mk_phW (T : Txt K mg w) {z u : Str} (nz : nameB z = true) (nu : nameB u = true) {G : Hp} {x dx t : Addr} {R : VK} {E : XK} (ht : SqT K G t [.str u]) (nx : G x = none) (ndx : G dx = none) (ne : dx ≠ x) (k : ∀ H', Same G H' → PhX K H' (.ref x) ⟨z, [u], false, [], []⟩ → R .non H') :
    spPhI K [.ref x, .str z, .ref t, .bl false, .ref (kwA ("Phase", some "__init__") "promises" K), .ref (kwA ("Phase", some "__init__") "waits" K)] (upd (upd G dx (.own x)) x (.ins (ga K "Phase") dx [])) R E := by
  have S := same_ins (o := .own x) (o' := .ins (ga K "Phase") dx []) nx ndx ne
  have tl : isL K (upd (upd G dx (.own x)) x (.ins (ga K "Phase") dx [])) nmsB (.ref t) (some [.str u]) := by
    refine .inl ⟨t, [.str u], rfl, .inr (ht.same S), told_str (cs := [u]) (fun z hz => by rw [List.mem_singleton.mp hz]; exact name_lay nu), (show 1 ≤ 1000 by decide), ?_⟩
    have e : nmsB [.str u] = true := by
      show ([u].all nameB && decide [u].Nodup) = true
      simp [nu]
    rw [if_pos e]
  exact ⟨x, dx, .str z, _, .bl false, _, _, some z, some [.str u], some false, some [], some [], rfl, upd_same, .inl ⟨z, rfl, (name_lay nz).1, by rw [if_pos nz]⟩, tl, .inl ⟨false, rfl, rfl⟩, isL_nil T.k_Phase_promises rfl, isL_nil T.k_Phase_waits rfl,
    fun u e => absurd e (by simp [wrong]), fun z' ws' b' ps' qs' f0 f1 f2 f3 f4 H' bt at_ => by
      cases f0
      cases f1
      cases f2
      cases f3
      cases f4
      exact k H' (same_but S nx bt) ⟨x, rfl, at_⟩⟩
/-- a Writer made, whatever it is for -/
theorem mk_wrx {H : Hp} {z : Str} {xs : List V} {ds : List Sd} {E : XK} {R : Addr → VK} (nz : nameB z = true) (sd : SdL K H xs ds) (l1 : 1 ≤ xs.length) (l2 : xs.length ≤ 3) (hb : bad ds = none)
    (k : ∀ (x : Addr) (H' : Hp), H x = none → Same H H' → WrX K H' (.ref x) (z, ds.map Sd.tr) → R x .non H') : ∀ x dx, H x = none → H dx = none → dx ≠ x →
    spWr K (V.ref x :: .str z :: xs) (upd (upd H dx (.own x)) x (.ins (ga K "Writer") dx [])) (R x) E := fun x dx nx nd ne => by
  have S0 := same_ins (o := .own x) (o' := .ins (ga K "Writer") dx []) nx nd ne
  have big : 1000 < sizeLine := by decide
  have lz := (name_lay nz).1
  refine ⟨[.ref x, .str z], xs, rfl, rfl, by omega, fun p np => ?_⟩
  have S1 := Same.new (o := .tup xs) np
  have S := S0.trans S1
  have ln := sd.len
  have er : refuse (some z) ds = none := by
    unfold refuse
    rw [if_neg (by simp), if_neg (by omega), hb]
    rfl
  refine ⟨x, dx, p, .str z, some z, xs, ds, rfl, S1 _ _ upd_same, upd_same, .inl ⟨z, rfl, by omega, by rw [nz]; rfl⟩, sd.same S, by omega, fun u i e => ?_, fun z' e0 _ H' bt at_ => ?_⟩
  · rw [er] at e
    cases e
  · obtain rfl := Option.some.inj e0
    have s' := same_but S nx bt
    exact k x H' nx s' (wrX_of at_ (sd.same s') hb)
end
end K09

set_option maxRecDepth 100000
set_option maxHeartbeats 4000000
namespace K09
open PySem PySem.Spec PyProof.Rows L2 He VH RZ
open LamX (Fx)
/-! a bent list, as the parts need it -/
/-- nothing of a well, of a list and of tables -/
def Bx2 (p F : Addr) (H H' : Hp) : Prop := ∀ b o, b ≠ p → b ≠ F → H b = some o → (∀ ps, o ≠ .tbl ps) → H' b = some o
theorem Bx2.trans {p F : Addr} {H H1 H2 : Hp} (x : Bx2 p F H H1) (y : Bx2 p F H1 H2) : Bx2 p F H H2 := fun b o n m h t => y b o n m (x b o n m h t) t
theorem Bx2.bx {p F : Addr} {H H' : Hp} (h : Bx p H H') : Bx2 p F H H' := fun b o n _ e t => h b o n e t
theorem Bx2.but {p F : Addr} {H H' : Hp} (h : But p H H') : Bx2 p F H H' := .bx (.but h)
theorem Bx2.same {p F : Addr} {H H' : Hp} (h : Same H H') : Bx2 p F H H' := .bx (.same h)
theorem Bx2.upd {p F : Addr} {H : Hp} {o : HO} : Bx2 p F H (upd H F o) := fun b o' _ m e _ => (upd_ne m).trans e
theorem Bx2.fx {p F : Addr} {H H' : Hp} {xs : List V} (w : Well H p) (hF : H F = some (.lst xs)) (h : Bx2 p F H H') : Fx H H' := fun b o e t l => h b o (fun z => by
  obtain ⟨x, y, v, w⟩ := w
  rw [z, w] at e
  exact l _ (Option.some.inj e).symm) (fun z => by
  rw [z, hF] at e
  exact l _ (Option.some.inj e).symm) e t
/-- lives on while a well and a list change -/
def Sur {α : Type} (pr : Hp → V → α → Prop) (p F : Addr) (H : Hp) (x : V) (r : α) : Prop := ∀ G, Bx2 p F H G → pr G x r
theorem Sur.on {α : Type} {pr : Hp → V → α → Prop} {p F : Addr} {H H' : Hp} {x : V} {r : α} (h : Sur pr p F H x r) (s : Bx2 p F H H') : Sur pr p F H' x r := fun G g => h G (s.trans g)
theorem Sur.each {α : Type} {pr : Hp → V → α → Prop} {p F : Addr} {H H' : Hp} {xs : List V} {zs : List α} (h : Each (Sur pr p F) H xs zs) (s : Bx2 p F H H') : Each (Sur pr p F) H' xs zs := h.same fun _ _ h => h.on s
theorem Sur.here {α : Type} {pr : Hp → V → α → Prop} {p F : Addr} {H G : Hp} {xs : List V} {zs : List α} (h : Each (Sur pr p F) H xs zs) (s : Bx2 p F H G) : Each pr G xs zs := ⟨h.1, fun i x e => by
  obtain ⟨r, er, q⟩ := h.2 i x e
  exact ⟨r, er, q G s⟩⟩
/-- what a bent list is -/
inductive Bent {α : Type} (zs : List α) (no : α → Prop) : Option (List V × List α) → Nat → Int → Prop
  | odd {n : Nat} : Bent zs no none n (-1)
  | dup {n : Nat} {xs : List V} {z : α} : z ∈ zs → xs.length = n + 1 → Bent zs no (some (xs, zs ++ [z])) n (zs.length : Nat)
  | ins {n : Nat} {xs : List V} {q : α} {m : Nat} : m ≤ zs.length → no q → xs.length = n + 1 → Bent zs no (some (xs, insL m q zs)) n (m : Nat)
theorem ben_use {α : Type} {pr : Hp → V → α → Prop} {K : PySem.W.Frag} {p F r b : Addr} {H : Hp} {xs ys fs : List V} {zs : List α} {no : α → Prop} {Q : VK} {E : XK} (wl : Well H p) (hF : H F = some (.lst fs)) (hr : H r = some (.lst xs)) (rp : r ≠ p) (hb : H b = some (.lst ys)) (bp : b ≠ p)
    (y0 : 0 < ys.length) (y1 : ys.length ≤ 100) (x1 : xs.length ≤ 100) (ex : Each (Sur pr p F) H xs zs) (ey : ∀ y ∈ ys, ∃ q, no q ∧ Sur pr p F H y q)
    (k : ∀ (t : Addr) (v : V) (i : Int) (r : Option (List V × List α)) (H' : Hp), Well H' p → But p H H' → H' t = some (.tup [v, .int i]) → Sur (fun G x r => isSq pr K G x r) p F H' v r → Bent zs no r xs.length i → (r = none → NoSq K H' v) → (∀ q, r = some q → ∃ D, v = .ref D ∧ H' D = some (.lst q.1) ∧ D ≠ F ∧ D ≠ p) → Q (.ref t) H') :
    spBen K [.ref p, .ref r, .ref b] H Q E := by
  refine ⟨p, r, b, xs, ys, rfl, wl, hr, rp, hb, bp, y0, y1, x1, fun v t H' w' b' nv ht => ?_, fun x hx D t H' w' b' nD hD ht => ?_, fun y hy i li D t H' w' b' nD hD ht => ?_⟩
  · have sv : Sur (fun G x r => isSq pr K G x r) p F H' v none := fun G g => nv G fun c o hn e nt => g c o (fun z => by
      obtain ⟨_, _, _, w⟩ := wl
      rw [z, w] at hn
      cases hn) (fun z => by
      rw [z, hF] at hn
      cases hn) e nt
    exact k t v (-1) none H' w' b' ht sv .odd (fun _ => sv H' fun _ _ _ _ e _ => e) (fun q e => by cases e)
  all_goals
    have nF : D ≠ F := fun z => by
      rw [z, hF] at nD
      cases nD
    have np : D ≠ p := fun z => by
      obtain ⟨_, _, _, w⟩ := wl
      rw [z, w] at nD
      cases nD
    have el := ex.1
  · obtain ⟨j, ej⟩ := List.getElem?_of_mem hx
    obtain ⟨z, ez, hz⟩ := ex.2 j x ej
    have E2 : Each (Sur pr p F) H' (xs ++ [x]) (zs ++ [z]) := Each.snoc (Sur.each ex (.but b')) (hz.on (.but b'))
    refine k t (.ref D) _ (some (xs ++ [x], zs ++ [z])) H' w' b' (by rw [el] at ht; exact ht) (fun G g => ⟨D, rfl, .inl (SqL.of (g _ _ np nF hD fun _ z => by cases z)), Sur.here E2 g, ?_⟩) (.dup (List.mem_of_getElem? ez) (by rw [List.length_append]; rfl)) (fun e => by cases e) (fun q e => by cases e; exact ⟨D, rfl, hD, nF, np⟩)
    rw [List.length_append]
    show xs.length + 1 ≤ 1000
    omega
  · obtain ⟨q, nq, sq⟩ := ey y hy
    have E2 : Each (Sur pr p F) H' (insL i y xs) (insL i q zs) := Each.ins (Sur.each ex (.but b')) (sq.on (.but b')) i
    have ll := insL_len (x := y) li
    refine k t (.ref D) _ (some (insL i y xs, insL i q zs)) H' w' b' ht (fun G g => ⟨D, rfl, .inl (SqL.of (g _ _ np nF hD fun _ z => by cases z)), Sur.here E2 g, by omega⟩) (.ins (by omega) nq ll) (fun e => by cases e) (fun q e => by cases e; exact ⟨D, rfl, hD, nF, np⟩)
/-- what is told of a bent list of Writers -/
theorem bent_w {t : Bnt} {ws : List V} {zs : List (Option Str)} {r : Option (List V × List (Option Str))} {i : Int} (g : Good t) (ew : t.w = some (ws, zs)) (l : ws.length = zs.length) (b : Bent zs (· = none) r ws.length i) (al : ∀ z ∈ zs, ∃ u, z = some u) :
    eQ t (.w r) = some (if (∃ q, r = some q ∧ 4 < q.1.length) then -1 else i) := by
  have gw := g.w
  unfold eW at gw
  rw [ew] at gw
  dsimp only at gw
  have bn : badN zs = none := by
    by_cases h : 1 ≤ ws.length ∧ ws.length ≤ 4
    · rw [if_pos h] at gw
      cases e : badN zs with
      | none => rfl
      | some k => rw [e] at gw; cases gw
    · rw [if_neg h] at gw; cases gw
  show eW (t.put (.w r)) = _
  unfold eW Bnt.put
  dsimp only
  cases b with
  | odd => rw [if_neg (by rintro ⟨q, e, _⟩; cases e)]
  | @dup _ xs z m lx =>
    dsimp only
    by_cases h : 4 < xs.length
    · rw [if_neg (by omega), if_pos ⟨_, rfl, h⟩]
    · obtain ⟨u, rfl⟩ := al z m
      rw [if_pos ⟨by omega, by omega⟩, if_neg (by rintro ⟨q, e, hq⟩; cases e; exact h hq), badN_dup bn m]
      rfl
  | @ins _ xs q m lm nq lx =>
    dsimp only
    by_cases h : 4 < xs.length
    · rw [if_neg (by omega), if_pos ⟨_, rfl, h⟩]
    · subst nq
      rw [if_pos ⟨by omega, by omega⟩, if_neg (by rintro ⟨q, e, hq⟩; cases e; exact h hq), badN_ins bn lm]
      rfl
/-- what is told of a bent list of Phases -/
theorem bent_p {t : Bnt} {ps : List V} {ds : List (Option Ph)} {r : Option (List V × List (Option Ph))} {i : Int} (g : Good t) (ep : t.p = some (ps, ds)) (l : ps.length = ds.length) (b : Bent ds (fun q => ∀ e, q = some e → e.ws.all (knW t).contains = false) r ps.length i) (al : ∀ z ∈ ds, ∃ u, z = some u) :
    eQ t (.p r) = some (if (∃ q, r = some q ∧ 6 < q.1.length) then -1 else i) := by
  have gw := g.p
  unfold eP at gw
  rw [ep] at gw
  dsimp only at gw
  have bn : badP ds (knW t) = none := by
    by_cases h : 1 ≤ ps.length ∧ ps.length ≤ 6
    · rw [if_pos h] at gw
      cases e : badP ds (knW t) with
      | none => rfl
      | some k => rw [e] at gw; cases gw
    · rw [if_neg h] at gw; cases gw
  show eP (t.put (.p r)) = _
  have ek : knW (t.put (.p r)) = knW t := rfl
  unfold eP
  rw [ek]
  unfold Bnt.put
  dsimp only
  cases b with
  | odd => rw [if_neg (by rintro ⟨q, e, _⟩; cases e)]
  | @dup _ xs z m lx =>
    dsimp only
    by_cases h : 6 < xs.length
    · rw [if_neg (by omega), if_pos ⟨_, rfl, h⟩]
    · obtain ⟨u, rfl⟩ := al z m
      rw [if_pos ⟨by omega, by omega⟩, if_neg (by rintro ⟨q, e, hq⟩; cases e; exact h hq), badP_dup bn m]
      rfl
  | @ins _ xs q m lm nq lx =>
    dsimp only
    by_cases h : 6 < xs.length
    · rw [if_neg (by omega), if_pos ⟨_, rfl, h⟩]
    · rw [if_pos ⟨by omega, by omega⟩, if_neg (by rintro ⟨q, e, hq⟩; cases e; exact h hq), badP_ins bn lm nq]
      rfl
/-- what is told of a bent list of ways -/
theorem bent_b {t : Bnt} {bs : List V} {rs : List (Option (Int × Int))} {r : Option (List V × List (Option (Int × Int)))} {i : Int} (g : Good t) (eb : t.b = some (bs, rs)) (b : Bent rs (fun q => wayO q (lnP t : Nat) = false) r bs.length i) (al : ∀ z ∈ rs, ∃ u, z = some u) :
    eQ t (.b r) = some i := by
  have gw := g.b
  unfold eB at gw
  rw [eb] at gw
  dsimp only at gw
  have bn : badY rs (lnP t : Nat) = none := by
    cases e : badY rs (lnP t : Nat) with
    | none => rfl
    | some k => rw [e] at gw; cases gw
  show eB (t.put (.b r)) = _
  have ek : lnP (t.put (.b r)) = lnP t := rfl
  unfold eB
  rw [ek]
  unfold Bnt.put
  dsimp only
  cases b with
  | odd => rfl
  | @dup _ xs z m lx =>
    obtain ⟨u, rfl⟩ := al z m
    dsimp only
    rw [badY_dup bn m]
    rfl
  | @ins _ xs q m lm nq lx =>
    dsimp only
    rw [badY_ins bn lm nq]
    rfl
end K09

set_option maxRecDepth 100000
set_option maxHeartbeats 4000000
namespace K09
open PySem PySem.Spec PyProof.Rows L2 He VH RZ
open LamX (Fx)
/-! parts of which one is replaced -/
abbrev sSpo : Stmt := top 72
abbrev FnSpo (K : PySem.W.Frag) (fd : FuncData) : Prop := FnP K "_law_spoilt" sSpo (ga K "_law_spoilt") fd
theorem bSpo {K : PySem.W.Frag} {fd : FuncData} (F : FnSpo K fd) : Binds K fd ["_law_well_here", "_law_parts_here"] [] := FunD.bindsN F fun _ _ _ _ _ _ us hl => match us, hl with | [_, _], _ => rfl
/-- Phase(.., writers = ..) -/
theorem kPhD {K : PySem.W.Frag} {fd : FuncData} (F : FnPhI K fd) : ∃ mv : List Value, KBn K fd nPhI 2 ["writers"] (fun us ws => us ++ (ws ++ mv)) (fun vs zs => vs ++ (zs ++ ((kwP K).drop 1).map (·.2))) :=
  FunD.kbinds0 F 2 ["writers"] ((kwP K).drop 1) (fun us its ws => us ++ (ws ++ its)) (by simp [kwP]) (fun q hq => List.mem_of_mem_drop hq) (fun a d b => a.append (b.append d))
    fun D doc pm an cdv ct us mv ws l1 l2 l3 => match us, mv, ws, l1, l2, l3 with
      | [_, _], [_, _, _], [_], _, _, _ => ⟨_, _, _, _, _, _, rfl, rfl, _, _, _, _, _, _, rfl, rfl, _, _, _, _, _, _, rfl, rfl, rfl⟩
def spSpo (K : PySem.W.Frag) : Sp := fun vs H Q _ => ∃ (p l la fa lp lw : Addr) (ws ps bs : List V) (d : Rd), vs = [.ref p, .ref l] ∧ Well H p ∧ Pt K H p l la fa lp lw ws ps bs d ∧
  ∀ (q : Par) (x : V) (i : Int) (t F D : Addr) (H' : Hp), Well H' p → But p H H' → F ≠ p → H F = none → H' F = some (.lst ([.ref la, .ref fa, .ref lp, .int d.wk, .int d.hd, .ref lw].set q.ix x)) → H' D = some (.tup [.str q.name, .int i]) → H' t = some (.tup [.ref F, .ref D]) →
    ParS K p H' x q → eQ (d.bnt ws ps bs fa) q = some i → Q (.ref t) H'
section
variable {P : Program} {w : World} {K : PySem.W.Frag} {mg : Str → Option Value} {base : Heap} {f : Addr} {fd fdD fdO fdB : FuncData}
abbrev nSpo : List Str := ["_law_well_here", "_law_parts_here", "_law_at", "_law_few", "_law_odd", "_law_where", "_law_known", "_law_stranger", "_law_bad"]
theorem scSpo : FnScope nSpo ["_law_well_here", "_law_parts_here"] (defScope sSpo) := ⟨rfl, rfl, rfl, by decide +kernel, rfl, by decide +kernel, by decide +kernel⟩
theorem ok_spo (F : FnP K "_law_spoilt" sSpo f fd) (T : Txt K mg w) (fns : Fns K) : FnOk P w K mg base (L2.CX P w) 9 f fd ["_law_well_here", "_law_parts_here"] (spSpo K) := by
  obtain ⟨fdD, FD⟩ := fns.f_l_draw
  obtain ⟨fdO, FO⟩ := fns.f_l_one
  obtain ⟨fdB, FB⟩ := fns.f_l_bent
  obtain ⟨fdJ, FJ⟩ := fns.f_Phase_init
  obtain ⟨fdI, FI⟩ := fns.f_Writer_init
  obtain ⟨mvC, kC⟩ := kPhC FJ
  obtain ⟨mvD, kD⟩ := kPhD FJ
  have GD : FnOk P w K mg base CX0 1 (ga K "_law_draw") fdD ["_law_well_here", "_law_much"] spDraw := ok_draw FD T.g_int
  have GO : FnOk P w K mg base CX0 2 (ga K "_law_one") fdO ["_law_well_here", "_law_some"] (spOne K) := ok_one FO FD T.m_l_draw T.g_int T.g_len
  have GB : FnOk P w K mg base CX0 3 (ga K "_law_bent") fdB ["_law_well_here", "_law_row", "_law_bad"] (spBen K) := ok_ben FB T FD FO
  have GJ : FnOk P w K mg base (L2.CX P w) 3 (ma K (ga K "Phase") "__init__") fdJ nPhI (spPhI K) := ok_phI FJ T fns
  have GI : FnR P w K mg base (L2.CX P w) 7 (ma K (ga K "Writer") "__init__") (spWr K) := ok_wri FI T (pdefs fns) fns
  refine F.ok scSpo (fun vs H Q E h => ?_) (fun cdv A outer s H vs Q E hr h => ?_)
  · obtain ⟨_, _, _, _, _, _, _, _, _, _, rfl, _⟩ := h
    rfl
  refine ⟨_, pss_cons (ps_par (i := 2) (j := 3) rfl scSpo.nd rfl rfl (by decide) rfl rfl (pa_cons (pe_call GD (hr.mono (by decide)) (by rfl) T.m_l_draw FD.kp (bDrw FD) .nil pass0 (pa_cons (pv 0) (pa_cons pe_int pa_nil))) (pa_cons (pe_callTy call_list_of (by rfl) T.g_list boot_list (pa_cons (pv 1) pa_nil)) pa_nil)) rfl)
    (pss_cons (ps_set (i := 4) scSpo.nd rfl (Or.inl rfl) (pe_lst (pa_cons pe_non (pa_cons pe_int (pa_cons pe_str (pa_cons pe_bl (pa_cons pe_dnewK (pa_cons (pe_tup pa_nil)
        (pa_cons (pe_makeK (n := 1) (ks := []) T.mk_Phase GJ (hr.mono (by decide)) (by rfl) T.m_Phase kC passN (pa_cons pe_str pa_nil) pk_nil)
        (pa_cons (StX.pe_makeR T.mk_Writer GI (hr.mono (by decide)) (by rfl) T.m_Writer passN (pa_cons pe_str (pa_cons (pe_tup (pa_cons pe_str (pa_cons (pe_tup pa_nil) pa_nil))) pa_nil))) pa_nil))))))))))
    (pss_cons (ps_if (pt_cmpR op_eq (pv 2) pe_int (nomark _))
      (pss_cons (ps_asg (pe_call GB (hr.mono (by decide)) (by rfl) T.m_l_bent FB.kp (bBen FB) .nil pass0 (pa_cons (pv 0) (pa_cons (pe_ix ix_list (pv 1) pe_int (fun _ _ => rfl)) (pa_cons (pe_lst (pa_cons (pe_ix ix_list (pv 4) pe_int (fun _ _ => rfl)) (pa_cons (pe_ix ix_list (pv 4) pe_int (fun _ _ => rfl)) (pa_cons (pe_ix ix_list (pv 4) pe_int (fun _ _ => rfl)) (pa_cons (pe_ix ix_list (pv 4) pe_int (fun _ _ => rfl)) (pa_cons (pe_lst (pa_cons (pe_ix ix_list (pe_ix ix_list (pv 1) pe_int (fun _ _ => rfl)) pe_int (fun _ _ => rfl)) pa_nil)) pa_nil)))))) pa_nil))))
          (pg_tup rfl (pgs_cons (pg_sub (pv 3) pe_int set_list) (pgs_cons (pg_name (i := 5) scSpo.nd rfl (Or.inl rfl)) pgs_nil))))
      (pss_cons (ps_if (PW.pt (pw_and (pt_val (pe_callB call_isi (by rfl) T.g_isinstance boot_isinstance (pa_cons (pe_ix ix_list (pv 3) pe_int (fun _ _ => rfl)) (pa_cons (pe_bltn (v := .ty "list") (by rfl) T.g_list boot_list rfl) pa_nil)))) (pw_and1 (pt_cmpR op_gt (pe_callB call_len_seq (by rfl) T.g_len boot_len (pa_cons (pe_ix ix_list (pv 3) pe_int (fun _ _ => rfl)) pa_nil)) pe_int (nomark _)))))
          (pss_one (ps_set (i := 5) scSpo.nd rfl (Or.inl rfl) (pe_un un_neg pe_int))) pss_nil)
      (pss_one (ps_ret (pe_tup (pa_cons (pv 3) (pa_cons (pe_tup (pa_cons pe_str (pa_cons (pv 5) pa_nil))) pa_nil))))))) pss_nil)
    (pss_cons (ps_if (pt_cmpR op_eq (pv 2) pe_int (nomark _))
      (pss_cons (ps_asg (pe_call GO (hr.mono (by decide)) (by rfl) T.m_l_one FO.kp (bOne FO) .nil pass0 (pa_cons (pv 0) (pa_cons (pv 4) pa_nil))) (pg_sub (pv 3) pe_int set_list))
      (pss_one (ps_ret (pe_tup (pa_cons (pv 3) (pa_cons (pe_tup (pa_cons pe_str (pa_cons (pe_un un_neg pe_int) pa_nil))) pa_nil)))))) pss_nil)
    (pss_cons (ps_if (pt_cmpR op_eq (pv 2) pe_int (nomark _))
      (pss_cons (ps_set (i := 6) scSpo.nd rfl (Or.inl rfl) (pe_fld (pe_ix ix_list (pe_ix ix_list (pv 1) pe_int (fun _ _ => rfl)) pe_int (fun _ _ => rfl)) (by rfl)))
      (pss_cons (ps_set (i := 7) scSpo.nd rfl (Or.inl rfl) (pe_makeK (n := 1) (ks := ["writers"]) T.mk_Phase GJ (hr.mono (by decide)) (by rfl) T.m_Phase kD passN (pa_cons pe_str pa_nil)
          (pk_cons (pe_tup (pa_cons (pe_ifExp (pt_cmpR op_lt (pe_callB call_len_str (by rfl) T.g_len boot_len (pa_cons (pv 6) pa_nil)) pe_int (nomark _)) (pe_op op_add_str (pv 6) pe_str) (pe_slice sl_str (pv 6) po_none (po_some pe_int))) pa_nil)) pk_nil)))
      (pss_cons (ps_asg (pe_call GB (hr.mono (by decide)) (by rfl) T.m_l_bent FB.kp (bBen FB) .nil pass0 (pa_cons (pv 0) (pa_cons (pe_ix ix_list (pv 1) pe_int (fun _ _ => rfl)) (pa_cons (pe_lst (pa_cons (pe_ix ix_list (pv 4) pe_int (fun _ _ => rfl)) (pa_cons (pe_ix ix_list (pv 4) pe_int (fun _ _ => rfl)) (pa_cons (pe_ix ix_list (pv 4) pe_int (fun _ _ => rfl)) (pa_cons (pv 7) (pa_cons (pe_lst (pa_cons (pe_ix ix_list (pe_ix ix_list (pv 1) pe_int (fun _ _ => rfl)) pe_int (fun _ _ => rfl)) pa_nil)) pa_nil)))))) pa_nil))))
          (pg_tup rfl (pgs_cons (pg_sub (pv 3) pe_int set_list) (pgs_cons (pg_name (i := 5) scSpo.nd rfl (Or.inl rfl)) pgs_nil))))
      (pss_cons (ps_if (PW.pt (pw_and (pt_val (pe_callB call_isi (by rfl) T.g_isinstance boot_isinstance (pa_cons (pe_ix ix_list (pv 3) pe_int (fun _ _ => rfl)) (pa_cons (pe_bltn (v := .ty "list") (by rfl) T.g_list boot_list rfl) pa_nil)))) (pw_and1 (pt_cmpR op_gt (pe_callB call_len_seq (by rfl) T.g_len boot_len (pa_cons (pe_ix ix_list (pv 3) pe_int (fun _ _ => rfl)) pa_nil)) pe_int (nomark _)))))
          (pss_one (ps_set (i := 5) scSpo.nd rfl (Or.inl rfl) (pe_un un_neg pe_int))) pss_nil)
      (pss_one (ps_ret (pe_tup (pa_cons (pv 3) (pa_cons (pe_tup (pa_cons pe_str (pa_cons (pv 5) pa_nil))) pa_nil))))))))) pss_nil)
    (pss_cons (ps_if (pt_cmpR op_lt (pv 2) pe_int (nomark _))
      (pss_cons (ps_asg (pe_call GO (hr.mono (by decide)) (by rfl) T.m_l_one FO.kp (bOne FO) .nil pass0 (pa_cons (pv 0) (pa_cons (pe_ix ix_list (pe_lst (pa_cons (pe_lst (pa_cons pe_int (pa_cons pe_int (pa_cons pe_bl (pa_cons pe_non (pa_cons pe_str pa_nil)))))) (pa_cons (pe_lst (pa_cons (pe_un un_neg pe_int) (pa_cons pe_int (pa_cons pe_bl (pa_cons pe_non (pa_cons pe_str (pa_cons (pe_tup (pa_cons pe_int pa_nil)) pa_nil))))))) pa_nil))) (pe_op op_sub (pv 2) pe_int) (fun _ _ => rfl)) pa_nil))) (pg_sub (pv 3) (pv 2) set_list))
      (pss_one (ps_ret (pe_tup (pa_cons (pv 3) (pa_cons (pe_tup (pa_cons (pe_ix ix_list (pe_lst (pa_cons pe_str (pa_cons pe_str pa_nil))) (pe_op op_sub (pv 2) pe_int) (fun _ _ => rfl)) (pa_cons (pe_un un_neg pe_int) pa_nil))) pa_nil)))))) pss_nil)
    (pss_cons (ps_set (i := 8) scSpo.nd rfl (Or.inl rfl) (pe_lst (pa_cons pe_non (pa_cons pe_int (pa_cons (pe_tup (pa_cons pe_int (pa_cons pe_int pa_nil))) (pa_cons (pe_tup (pa_cons pe_int (pa_cons pe_int pa_nil))) (pa_cons (pe_tup (pa_cons pe_int pa_nil)) (pa_cons (pe_lst (pa_cons pe_int (pa_cons pe_int pa_nil)))
        (pa_cons (pe_tup (pa_cons (pe_callB call_len_seq (by rfl) T.g_len boot_len (pa_cons (pe_ix ix_list (pv 1) pe_int (fun _ _ => rfl)) pa_nil)) (pa_cons pe_int pa_nil))) (pa_cons (pe_tup (pa_cons pe_bl (pa_cons pe_int pa_nil))) (pa_cons (pe_tup (pa_cons pe_int (pa_cons (pe_un un_neg pe_int) pa_nil))) (pa_cons (pe_tup (pa_cons pe_int (pa_cons pe_bl pa_nil))) (pa_cons (pe_tup (pa_cons pe_str (pa_cons pe_int pa_nil))) pa_nil)))))))))))))
    (pss_cons (ps_asg (pe_call GB (hr.mono (by decide)) (by rfl) T.m_l_bent FB.kp (bBen FB) .nil pass0 (pa_cons (pv 0) (pa_cons (pe_ix ix_list (pv 1) pe_int (fun _ _ => rfl)) (pa_cons (pv 8) pa_nil))))
          (pg_tup rfl (pgs_cons (pg_sub (pv 3) pe_int set_list) (pgs_cons (pg_name (i := 5) scSpo.nd rfl (Or.inl rfl)) pgs_nil))))
    (pss_one (ps_ret (pe_tup (pa_cons (pv 3) (pa_cons (pe_tup (pa_cons pe_str (pa_cons (pv 5) pa_nil))) pa_nil)))))))))))), ?_⟩
  obtain ⟨p, l, la, fa, lp, lw, ws, ps, bs, d, rfl, wl, pt, k⟩ := h
  have big : 1000 < sizeLine := by decide
  refine ⟨_, rfl, p, 6, rfl, wl, by decide, by decide, fun H1 c c0 c1 w1 b1 => ⟨_, rfl, l, _, rfl, .inl (SqL.of (b1 _ _ pt.nl pt.hl)), fun F nF => ?_⟩⟩
  have Fp := w1.new nF
  have nFH : H F = none := by
    cases e : H F with
    | none => rfl
    | some o => rw [b1 F o Fp e] at nF; cases nF
  have SF := Same.new (o := .lst [.ref la, .ref fa, .ref lp, .int d.wk, .int d.hd, .ref lw]) nF
  have w2 := w1.same SF
  have b2 := b1.trans (But.of SF)
  have hF := upd_same (H := H1) (a := F) (o := .lst [.ref la, .ref fa, .ref lp, .int d.wk, .int d.hd, .ref lw])
  generalize upd H1 F (.lst [.ref la, .ref fa, .ref lp, .int d.wk, .int d.hd, .ref lw]) = H2 at w2 b2 hF ⊢
  -- odd things
  refine ⟨_, _, rfl, fun q nq => ?_⟩
  have S1 := Same.new (o := .dK []) nq
  have hq := upd_same (H := H2) (a := q) (o := .dK [])
  generalize upd H2 q (.dK []) = H3 at S1 hq ⊢
  refine ⟨(show 0 ≤ sizeLine by decide), fun u nu => ?_⟩
  have S2 := S1.trans (Same.new (o := .tup []) nu)
  have hq2 := (Same.new (o := .tup []) nu) _ _ hq
  have hu := upd_same (H := H3) (a := u) (o := .tup [])
  generalize upd H3 u (.tup []) = H4 at S2 hq2 hu ⊢
  refine ⟨rfl, rfl, fun x dx nx ndx ne => ?_⟩
  refine mk_phN (K := K) (mg := mg) (w := w) T (z := "zz") (by decide) nx ndx ne (fun H5 s5 hx => ?_)
  refine ⟨rfl, ?_⟩
  refine ⟨(show 0 ≤ sizeLine by decide), fun e ne => ⟨(show 2 ≤ sizeLine by decide), fun g ng => ?_⟩⟩
  have S3 := Same.new (o := .tup []) ne
  have S4 := Same.new (o := .tup [.str "delete", .ref e]) ng
  have he := S4 _ _ (upd_same (H := H5) (a := e) (o := .tup []))
  have hg := upd_same (H := upd H5 e (.tup [])) (a := g) (o := .tup [.str "delete", .ref e])
  have hq6 := S4 _ _ (S3 _ _ (s5 _ _ hq2))
  have hu6 := S4 _ _ (S3 _ _ (s5 _ _ hu))
  have hx6 := (hx.same S3).same S4
  have S6 := ((S2.trans s5).trans S3).trans S4
  clear S3 S4 hq2 hu hx s5 S2
  generalize upd (upd H5 e (.tup [])) g (.tup [.str "delete", .ref e]) = H6 at he hg hq6 hu6 hx6 S6 ⊢
  have sd : SdL K H6 [.ref g] [.st ⟨"delete", [], []⟩] := .cons ⟨g, rfl, by
    unfold StAt
    rw [if_neg (by decide)]
    exact ⟨e, hg, he⟩, by decide +kernel⟩ .nil
  refine mk_wrx (by decide) sd (Nat.le_refl 1) (show 1 ≤ 3 by decide) (by decide +kernel) fun y H7 ny s7 hy => ⟨rfl, ?_⟩
  refine ⟨(show 8 ≤ sizeLine by decide), fun D nD => ?_⟩
  have S8 := Same.new (o := .lst [.non, .int 5, .str "x", .bl true, .ref q, .ref u, .ref x, .ref y]) nD
  have hD := upd_same (H := H7) (a := D) (o := .lst [.non, .int 5, .str "x", .bl true, .ref q, .ref u, .ref x, .ref y])
  have hq8 := S8 _ _ (s7 _ _ hq6)
  have hu8 := S8 _ _ (s7 _ _ hu6)
  have hx8 := (hx6.same s7).same S8
  have hy8 := hy.same S8
  have S9 := (S6.trans s7).trans S8
  clear S6 s7 S8 hq6 hu6 hx6 hy sd he hg ng
  generalize upd H7 D (.lst [.non, .int 5, .str "x", .bl true, .ref q, .ref u, .ref x, .ref y]) = H8 at hD hq8 hu8 hx8 hy8 S9 ⊢
  refine ⟨_, rfl, rfl, _, rfl, ?_⟩
  rw [dec_int]
  have w8 := w2.same S9
  have b8 := b2.trans (But.of S9)
  have hF8 := S9 _ _ hF
  have nDF : D ≠ F := fun z => by
    rw [z, hF8] at hD
    cases hD
  have pt8 := pt.bx wl (Bx.but b8)
  have Dp : D ≠ p := fun z => by
    obtain ⟨_, _, _, w⟩ := w8
    rw [z, w] at hD
    cases hD
  clear hF S9 b2 w2 nF SF S1 nq nu nx ndx ny nD
  rename_i ne0
  clear ne ne0
  have qF : q ≠ F := fun z => by rw [z, hF8] at hq8; cases hq8
  have qp : q ≠ p := fun z => by
    obtain ⟨_, _, _, w⟩ := w8
    rw [z, w] at hq8
    cases hq8
  have uF : u ≠ F := fun z => by rw [z, hF8] at hu8; cases hu8
  have up : u ≠ p := fun z => by
    obtain ⟨_, _, _, w⟩ := w8
    rw [z, w] at hu8
    cases hu8
  have fin : ∀ (pq : Par) (v : V) (i : Int) (G : Hp) (D t : Addr), Well G p → But p H G → G F = some (.lst ([V.ref la, V.ref fa, V.ref lp, V.int d.wk, V.int d.hd, V.ref lw].set pq.ix v)) → Sur (fun G x q => q.At K G x) p F G v pq → eQ (d.bnt ws ps bs fa) pq = some i → G D = none → upd G D (.tup [.str pq.name, .int i]) t = none →
      Q (.ref t) (upd (upd G D (.tup [.str pq.name, .int i])) t (.tup [.ref F, .ref D])) := fun pq v i G D t wG bG hF' sv eq nD nt => by
    have s1 := Same.new (o := .tup [.str pq.name, .int i]) nD
    have s2 := Same.new (o := .tup [.ref F, .ref D]) nt
    exact k pq v i t F D _ (wG.same (s1.trans s2)) (bG.trans (But.of (s1.trans s2))) Fp nFH (s2 _ _ (s1 _ _ hF')) (s2 _ _ upd_same) upd_same (fun G' g => sv G' ((Bx2.same (s1.trans s2)).trans (.bx g))) eq
  have good : Good (d.bnt ws ps bs fa) := d.good pt.ok pt.w.1 pt.p.1
  clear k
  by_cases c0' : c = 0
  · subst c0'
    refine iteT ?_
    obtain ⟨w0, hw0⟩ : ∃ w0, ws[0]? = some w0 := by
      have := pt.ok.z1
      have l1 := pt.w.1
      have l2 : d.ro.zs.length = d.ws.length := List.length_map _
      exact ⟨_, List.getElem?_eq_getElem (show 0 < ws.length by omega)⟩
    have qD := SqL.of (K := K) hD
    have ql := SqL.of (K := K) pt8.hl
    refine ⟨_, rfl, _, rfl, l, _, 0, _, rfl, rfl, ql, rfl, _, rfl, D, _, 0, _, rfl, rfl, qD, rfl, _, rfl, D, _, 1, _, rfl, rfl, qD, rfl, _, rfl, D, _, 2, _, rfl, rfl, qD, rfl, _, rfl, D, _, 6, _, rfl, rfl, qD, rfl, _, rfl, l, _, 0, _, rfl, rfl, ql, rfl, la, ws, 0, w0, rfl, rfl, SqL.of pt8.ha, ?_⟩
    refine ⟨atI_nat hw0, (show 1 ≤ sizeLine by decide), fun n1 f1 => ⟨(show 5 ≤ sizeLine by decide), fun n2 f2 => ?_⟩⟩
    have X1 := Same.new (o := .lst [w0]) f1
    have X2 := Same.new (o := .lst [.non, .int 5, .str "x", .ref x, .ref n1]) f2
    have X := X1.trans X2
    have w9 := w8.same X
    have b9 := b8.trans (But.of X)
    have hF9 := X _ _ hF8
    have pt9 := pt8.bx w8 (Bx.same X)
    have h1 := X2 _ _ (upd_same (H := H8) (a := n1) (o := .lst [w0]))
    have h2 := upd_same (H := upd H8 n1 (.lst [w0])) (a := n2) (o := .lst [.non, .int 5, .str "x", .ref x, .ref n1])
    have hx9 := hx8.same X
    have n1F : n1 ≠ F := fun z => by rw [z, hF8] at f1; cases f1
    have n1p := w8.new f1
    have n2p := (w8.same X1).new f2
    dsimp only [tNil]
    generalize upd (upd H8 n1 (.lst [w0])) n2 (.lst [.non, .int 5, .str "x", .ref x, .ref n1]) = H9 at w9 b9 hF9 pt9 h1 h2 hx9 ⊢
    clear X X1 X2 f1 f2 hx8 hq8 hu8 hy8 hD qD ql pt8
    have eW : Each (Sur (IsWr K) p F) H9 ws ((d.ws.map (·.1)).map some) := ⟨(each_is pt9.w).1, fun i z e => by
      obtain ⟨r, er, hr⟩ := pt9.w.2 i z e
      exact ⟨some r.1, by rw [List.map_map, List.getElem?_map, er]; rfl, fun G g => (hr.fx (g.fx w9 hF9)).is⟩⟩
    refine ben_use w9 hF9 pt9.ha pt9.na h2 n2p (show 0 < 5 by decide) (show 5 ≤ 100 by decide) (by have := pt9.ok.z4; have l1 := pt9.w.1; have l2 : d.ro.zs.length = d.ws.length := List.length_map _; omega) eW (no := (· = none)) (fun y hy => ⟨none, rfl, fun G g => ?_⟩) (fun t v i r G wG bG ht sv bt nv yv => ?_)
    · simp only [List.mem_cons, List.not_mem_nil, or_false] at hy
      rcases hy with rfl | rfl | rfl | rfl | rfl
      · exact noC_tr T.o_Writer .non
      · exact noC_tr T.o_Writer .int
      · exact noC_tr T.o_Writer .str
      · exact noC_ph T (by simp) (hx9.fx (g.fx w9 hF9))
      · exact noC_lst T.o_Writer (g _ _ n1p n1F h1 fun _ z => by cases z)
    have hFG := bG _ _ Fp hF9
    refine ⟨t, _, rfl, SqT.of ht, rfl, ?_⟩
    refine ⟨_, _, rfl, _, rfl, F, _, 0, 0, rfl, rfl, hFG, rfl, ?_⟩
    have hF' := upd_same (H := G) (a := F) (o := .lst ([V.ref la, V.ref fa, V.ref lp, V.int d.wk, V.int d.hd, V.ref lw].set 0 v))
    have wG' : Well (upd G F (.lst ([V.ref la, V.ref fa, V.ref lp, V.int d.wk, V.int d.hd, V.ref lw].set 0 v))) p := by
      obtain ⟨x, y, v, e⟩ := wG
      exact ⟨x, y, v, by rw [upd_ne (Ne.symm Fp)]; exact e⟩
    have bG' := But.sub (u := .lst ([V.ref la, V.ref fa, V.ref lp, V.int d.wk, V.int d.hd, V.ref lw].set 0 v)) (b9.trans bG) nFH (But.of (Same.refl G))
    have sv' := sv.on (Bx2.upd (o := .lst ([V.ref la, V.ref fa, V.ref lp, V.int d.wk, V.int d.hd, V.ref lw].set 0 v)))
    have eQ' := bent_w good rfl (by rw [List.length_map, List.length_map]; exact pt9.w.1) bt fun z hz => by
      obtain ⟨y, _, e⟩ := List.mem_map.mp hz
      exact ⟨y, e.symm⟩
    refine ⟨_, _, rfl, ?_⟩
    refine ⟨rfl, ?_⟩
    refine ⟨_, rfl, F, _, 0, _, rfl, rfl, SqL.of hF', rfl, ?_⟩
    cases r with
    | none =>
      have nq : NoSq K _ v := sv' _ (Bx2.same (Same.refl _))
      obtain ⟨tt, t1, t2, _⟩ := nq _ (Same.refl _)
      refine ⟨_, _, _, _, false, rfl, .ty "list", t1, t2, ?_⟩
      refine ⟨false, rfl, iteF (iteF ⟨_, rfl, _, rfl, (show 2 ≤ sizeLine by decide), fun D2 m2 => ⟨(show 2 ≤ sizeLine by decide), fun t3 m3 => fin (.w none) v i _ D2 t3 wG' bG' hF' sv' ?_ m2 m3⟩⟩)⟩
      rw [eQ', if_neg (by rintro ⟨q, e, _⟩; cases e)]
    | some r =>
      obtain ⟨Dv, rfl, hDv, dF, dp⟩ := yv r rfl
      have hDv' : upd G F (.lst ([V.ref la, V.ref fa, V.ref lp, V.int d.wk, V.int d.hd, V.ref lw].set 0 (.ref Dv))) Dv = some (.lst r.1) := (upd_ne dF).trans hDv
      refine ⟨_, _, _, _, true, rfl, .ty "list", sqL_ty (SqL.of hDv'), (kit_ty (by decide +kernel) : PySem.W.kitOne K (.type "list") (.type "list") = some true), true, rfl, iteT ?_⟩
      refine ⟨_, rfl, F, _, 0, _, rfl, rfl, SqL.of hF', rfl, Dv, r.1, rfl, .inl (SqL.of hDv'), _, _, rfl, rfl, _, rfl, ?_⟩
      by_cases h4 : 4 < r.1.length
      · rw [show decide ((4 : Int) < (r.1.length : Nat)) = true by simp; omega]
        refine iteT ⟨_, rfl, ?_⟩
        refine ⟨_, rfl, _, rfl, (show 2 ≤ sizeLine by decide), fun D2 m2 => ⟨(show 2 ≤ sizeLine by decide), fun t3 m3 => fin (.w (some r)) (.ref Dv) (-1) _ D2 t3 wG' bG' hF' sv' ?_ m2 m3⟩⟩
        rw [eQ', if_pos ⟨r, rfl, h4⟩]
      · rw [show decide ((4 : Int) < (r.1.length : Nat)) = false by simp; omega]
        refine iteF ⟨_, rfl, _, rfl, (show 2 ≤ sizeLine by decide), fun D2 m2 => ⟨(show 2 ≤ sizeLine by decide), fun t3 m3 => fin (.w (some r)) (.ref Dv) i _ D2 t3 wG' bG' hF' sv' ?_ m2 m3⟩⟩
        rw [eQ', if_neg (by rintro ⟨q, e, hq⟩; cases e; exact h4 hq)]
  rw [show (c == 0) = false by simp [c0']]
  refine iteF ⟨_, rfl, rfl, _, rfl, ?_⟩
  rw [dec_int]
  by_cases c1' : c = 1
  · subst c1'
    refine iteT ?_
    refine ⟨_, rfl, _, rfl, p, D, _, rfl, w8, Dp, hD, (show 0 < 8 by decide), (show 8 < 1073741824 by decide), fun G v hv wG bG => ?_⟩
    have hFG := bG _ _ Fp hF8
    refine ⟨_, rfl, F, _, 1, 1, rfl, rfl, hFG, rfl, ?_⟩
    have hF' := upd_same (H := G) (a := F) (o := .lst ([V.ref la, V.ref fa, V.ref lp, V.int d.wk, V.int d.hd, V.ref lw].set 1 v))
    have wG' : Well (upd G F (.lst ([V.ref la, V.ref fa, V.ref lp, V.int d.wk, V.int d.hd, V.ref lw].set 1 v))) p := by
      obtain ⟨x, y, v, e⟩ := wG
      exact ⟨x, y, v, by rw [upd_ne (Ne.symm Fp)]; exact e⟩
    have bG' := But.sub (u := .lst ([V.ref la, V.ref fa, V.ref lp, V.int d.wk, V.int d.hd, V.ref lw].set 1 v)) (b8.trans bG) nFH (But.of (Same.refl G))
    have sv : Sur (fun G x q => Par.At K G x q) p F (upd G F (.lst ([V.ref la, V.ref fa, V.ref lp, V.int d.wk, V.int d.hd, V.ref lw].set 1 v))) v (.f none) := fun G' g => by
      have g8 : Bx2 p F H8 G' := ((Bx2.but bG).trans Bx2.upd).trans g
      show NoC K "Fill" G' v
      simp only [List.mem_cons, List.not_mem_nil, or_false] at hv
      rcases hv with rfl | rfl | rfl | rfl | rfl | rfl | rfl | rfl
      · exact noC_tr T.o_Fill .non
      · exact noC_tr T.o_Fill .int
      · exact noC_tr T.o_Fill .str
      · exact noC_tr T.o_Fill .bl
      · exact noC_tr T.o_Fill (.dct (g8 _ _ qp qF hq8 fun _ z => by cases z))
      · exact noC_tr T.o_Fill (.tup (SqT.of (g8 _ _ up uF hu8 fun _ z => by cases z)) .nil)
      · exact noC_ph T (by simp) (hx8.fx (g8.fx w8 hF8))
      · exact noC_wr T (by simp) (hy8.fx (g8.fx w8 hF8))
    refine ⟨_, rfl, _, rfl, (show 2 ≤ sizeLine by decide), fun D2 m2 => ⟨(show 2 ≤ sizeLine by decide), fun t3 m3 => fin (.f none) v (-1) _ D2 t3 wG' bG' hF' sv rfl m2 m3⟩⟩
  rw [show (c == 1) = false by simp [c1']]
  refine iteF ⟨_, rfl, rfl, _, rfl, ?_⟩
  rw [dec_int]
  by_cases c2' : c = 2
  · subst c2'
    refine iteT ?_
    obtain ⟨w0, hw0⟩ : ∃ w0, ws[0]? = some w0 := by
      have := pt.ok.z1
      have l1 := pt.w.1
      have l2 : d.ro.zs.length = d.ws.length := List.length_map _
      exact ⟨_, List.getElem?_eq_getElem (show 0 < ws.length by omega)⟩
    obtain ⟨p0, hp0⟩ : ∃ p0, ps[0]? = some p0 := by
      have : 1 ≤ d.ds.length := pt.ok.p1
      have l1 := pt.p.1
      exact ⟨_, List.getElem?_eq_getElem (show 0 < ps.length by omega)⟩
    obtain ⟨r0, er0, a0, nb, rfl, ⟨xs0, hWr, _⟩, _⟩ := pt8.w.2 0 w0 hw0
    obtain ⟨dx0, t0, hw1, _⟩ := hWr
    have hz0 : (d.ws.map (·.1))[0]? = some r0.1 := by rw [List.getElem?_map, er0]; rfl
    have nz := pt.nm _ (List.mem_of_getElem? hz0)
    have lz := (name_lay nz).1
    have sn := strN_new hz0 pt.nm pt.fs
    have so := strN_ok nz
    have ql := SqL.of (K := K) pt8.hl
    refine ⟨_, rfl, l, _, 0, _, rfl, rfl, ql, rfl, la, ws, 0, _, rfl, rfl, SqL.of pt8.ha, atI_nat hw0, a0, _, _, _, _, rfl, hw1, T.c_Writer, T.n_Writer_name, rfl, ?_⟩
    have l12 : (r0.1.length : Int) ≤ 12 := by
      have := (nameB_iff.mp nz).2.1
      have ez : r0.1.length = r0.1.cps.toList.length := by
        rw [Array.length_toList]
        rfl
      omega
    refine ⟨_, rfl, r0.1, rfl, (by omega), _, _, rfl, rfl, _, rfl, ?_⟩
    by_cases lt : (r0.1.length : Int) < 12
    case' pos =>
      have es : r0.1 ++ "z" = strN r0.1 := by unfold strN; rw [if_pos lt]
      rw [show decide ((r0.1.length : Int) < 12) = true by simpa using lt]
      refine iteT ⟨_, rfl, _, _, rfl, rfl, (by show r0.1.length + 1 ≤ sizeLine; omega), ?_⟩
    case' neg =>
      have es : cutS r0.1 none (some 11) = strN r0.1 := by unfold strN; rw [if_neg lt]
      rw [show decide ((r0.1.length : Int) < 12) = false by simpa using lt]
      refine iteF ⟨_, rfl, _, rfl, _, rfl, (by omega), ?_⟩
    all_goals
      rw [es]
      refine ⟨(show 1 ≤ sizeLine by decide), fun t4 m4 => ?_⟩
      have s4 := Same.new (o := .tup [.str (strN r0.1)]) m4
      refine ⟨rfl, rfl, fun x2 dx2 nx2 nd2 ne2 => ?_⟩
      refine mk_phW (K := K) (mg := mg) (w := w) T (z := "zzzzzzzzzzzz") (u := strN r0.1) (by decide +kernel) so.1 (SqT.of upd_same) nx2 nd2 ne2 (fun G1 s1 hx2 => ?_)
      refine ⟨rfl, ?_⟩
      have sA := s4.trans s1
      have hD1 := sA _ _ hD
      have ql1 := ql.same sA
      refine ⟨_, rfl, _, rfl, l, _, 2, _, rfl, rfl, ql1, rfl, _, rfl, D, _, 0, _, rfl, rfl, SqL.of hD1, rfl, _, rfl, D, _, 1, _, rfl, rfl, SqL.of hD1, rfl, _, rfl, D, _, 7, _, rfl, rfl, SqL.of hD1, rfl, _, rfl, _, rfl, l, _, 2, _, rfl, rfl, ql1, rfl, lp, ps, 0, p0, rfl, rfl, SqL.of (sA _ _ pt8.hp), atI_nat hp0, (show 1 ≤ sizeLine by decide), fun n1 f1 => ⟨(show 5 ≤ sizeLine by decide), fun n2 f2 => ?_⟩⟩
      dsimp only [tNil]
      have X0 := Same.new (o := .lst [p0]) f1
      have X2 := Same.new (o := .lst [.non, .int 5, .ref y, .ref x2, .ref n1]) f2
      have X1 := X0.trans X2
      have X := sA.trans X1
      have w9 := w8.same X
      have b9 := b8.trans (But.of X)
      have hF9 := X _ _ hF8
      have pt9 := pt8.bx w8 (Bx.same X)
      have h1 := X2 _ _ (upd_same (H := G1) (a := n1) (o := .lst [p0]))
      have h2 := upd_same (H := upd G1 n1 (.lst [p0])) (a := n2) (o := .lst [.non, .int 5, .ref y, .ref x2, .ref n1])
      have hy9 := hy8.same X
      have hx29 := hx2.same X1
      have hF1 := sA _ _ hF8
      have n1F : n1 ≠ F := fun z => by rw [z, hF1] at f1; cases f1
      have n1p := (w8.same sA).new f1
      have n2p := ((w8.same sA).same X0).new f2
      generalize upd (upd G1 n1 (.lst [p0])) n2 (.lst [.non, .int 5, .ref y, .ref x2, .ref n1]) = H9 at w9 b9 hF9 pt9 h1 h2 hy9 hx29 ⊢
      clear X X0 X1 X2 f1 f2 hx8 hq8 hu8 hy8 hD ql pt8 ql1 hD1 sA s1 s4 hx2 nx2 nd2 ne2 hF1
      have eW : Each (Sur (IsPh K) p F) H9 ps (d.ds.map some) := ⟨by rw [List.length_map]; exact pt9.p.1, fun i z e => by
        obtain ⟨r, er, hr⟩ := pt9.p.2 i z e
        have lr := pt9.lw r (List.mem_of_getElem? er)
        exact ⟨some r, by rw [List.getElem?_map, er]; rfl, fun G g => by
          obtain ⟨a, ex, hd⟩ := hr.fx (g.fx w9 hF9)
          exact ⟨⟨a, ex, hd⟩, lr⟩⟩⟩
      have ek : knW (d.bnt ws ps bs fa) = d.ws.map (·.1) := by
        show ((d.ws.map (·.1)).map some).filterMap id = d.ws.map (·.1)
        rw [List.filterMap_map, show List.filterMap (id ∘ some) (d.ws.map (·.1)) = (d.ws.map (·.1)).filterMap some from rfl, List.filterMap_some]
      refine ben_use w9 hF9 pt9.hp pt9.np h2 n2p (show 0 < 5 by decide) (show 5 ≤ 100 by decide) (by have : d.ds.length ≤ 6 := pt9.ok.p6; have l1 := pt9.p.1; omega) eW (no := fun q => ∀ e, q = some e → e.ws.all (knW (d.bnt ws ps bs fa)).contains = false) (fun y' hy' => ?_) (fun t v i r G wG bG ht sv bt nv yv => ?_)
      · simp only [List.mem_cons, List.not_mem_nil, or_false] at hy'
        rcases hy' with rfl | rfl | rfl | rfl | rfl
        · exact ⟨none, fun e z => (by cases z), fun G g => noC_tr T.o_Phase .non⟩
        · exact ⟨none, fun e z => (by cases z), fun G g => noC_tr T.o_Phase .int⟩
        · exact ⟨none, fun e z => (by cases z), fun G g => noC_wr T (by simp) (hy9.fx (g.fx w9 hF9))⟩
        · refine ⟨some ⟨"zzzzzzzzzzzz", [strN r0.1], false, [], []⟩, fun e z => ?_, fun G g => ?_⟩
          · cases z
            rw [ek]
            show ((d.ws.map (·.1)).contains (strN r0.1) && true) = false
            rw [sn]
            rfl
          · obtain ⟨a, ex, hd⟩ := hx29.fx (g.fx w9 hF9)
            exact ⟨⟨a, ex, hd⟩, show 1 ≤ 1000 by decide⟩
        · exact ⟨none, fun e z => (by cases z), fun G g => noC_lst T.o_Phase (g _ _ n1p n1F h1 fun _ z => by cases z)⟩
      have hFG := bG _ _ Fp hF9
      refine ⟨t, _, rfl, SqT.of ht, rfl, ?_⟩
      refine ⟨_, _, rfl, _, rfl, F, _, 2, 2, rfl, rfl, hFG, rfl, ?_⟩
      have hF' := upd_same (H := G) (a := F) (o := .lst ([V.ref la, V.ref fa, V.ref lp, V.int d.wk, V.int d.hd, V.ref lw].set 2 v))
      have wG' : Well (upd G F (.lst ([V.ref la, V.ref fa, V.ref lp, V.int d.wk, V.int d.hd, V.ref lw].set 2 v))) p := by
        obtain ⟨x, y, v, e⟩ := wG
        exact ⟨x, y, v, by rw [upd_ne (Ne.symm Fp)]; exact e⟩
      have bG' := But.sub (u := .lst ([V.ref la, V.ref fa, V.ref lp, V.int d.wk, V.int d.hd, V.ref lw].set 2 v)) (b9.trans bG) nFH (But.of (Same.refl G))
      have sv' := sv.on (Bx2.upd (o := .lst ([V.ref la, V.ref fa, V.ref lp, V.int d.wk, V.int d.hd, V.ref lw].set 2 v)))
      have eQ' := bent_p good rfl (by rw [List.length_map]; exact pt9.p.1) bt fun z hz => by
        obtain ⟨y, _, e⟩ := List.mem_map.mp hz
        exact ⟨y, e.symm⟩
      refine ⟨_, _, rfl, ?_⟩
      refine ⟨rfl, ?_⟩
      refine ⟨_, rfl, F, _, 2, _, rfl, rfl, SqL.of hF', rfl, ?_⟩
      cases r with
      | none =>
        have nq : NoSq K _ v := sv' _ (Bx2.same (Same.refl _))
        obtain ⟨tt, t1, t2, _⟩ := nq _ (Same.refl _)
        refine ⟨_, _, _, _, false, rfl, .ty "list", t1, t2, ?_⟩
        refine ⟨false, rfl, iteF (iteF ⟨_, rfl, _, rfl, (show 2 ≤ sizeLine by decide), fun D2 m2 => ⟨(show 2 ≤ sizeLine by decide), fun t3 m3 => fin (.p none) v i _ D2 t3 wG' bG' hF' sv' ?_ m2 m3⟩⟩)⟩
        rw [eQ', if_neg (by rintro ⟨q, e, _⟩; cases e)]
      | some r =>
        obtain ⟨Dv, rfl, hDv, dF, dp⟩ := yv r rfl
        have hDv' : upd G F (.lst ([V.ref la, V.ref fa, V.ref lp, V.int d.wk, V.int d.hd, V.ref lw].set 2 (.ref Dv))) Dv = some (.lst r.1) := (upd_ne dF).trans hDv
        refine ⟨_, _, _, _, true, rfl, .ty "list", sqL_ty (SqL.of hDv'), (kit_ty (by decide +kernel) : PySem.W.kitOne K (.type "list") (.type "list") = some true), true, rfl, iteT ?_⟩
        refine ⟨_, rfl, F, _, 2, _, rfl, rfl, SqL.of hF', rfl, Dv, r.1, rfl, .inl (SqL.of hDv'), _, _, rfl, rfl, _, rfl, ?_⟩
        by_cases h6 : 6 < r.1.length
        · rw [show decide ((6 : Int) < (r.1.length : Nat)) = true by simp; omega]
          refine iteT ⟨_, rfl, ?_⟩
          refine ⟨_, rfl, _, rfl, (show 2 ≤ sizeLine by decide), fun D2 m2 => ⟨(show 2 ≤ sizeLine by decide), fun t3 m3 => fin (.p (some r)) (.ref Dv) (-1) _ D2 t3 wG' bG' hF' sv' ?_ m2 m3⟩⟩
          rw [eQ', if_pos ⟨r, rfl, h6⟩]
        · rw [show decide ((6 : Int) < (r.1.length : Nat)) = false by simp; omega]
          refine iteF ⟨_, rfl, _, rfl, (show 2 ≤ sizeLine by decide), fun D2 m2 => ⟨(show 2 ≤ sizeLine by decide), fun t3 m3 => fin (.p (some r)) (.ref Dv) i _ D2 t3 wG' bG' hF' sv' ?_ m2 m3⟩⟩
          rw [eQ', if_neg (by rintro ⟨q, e, hq⟩; cases e; exact h6 hq)]
  rw [show (c == 2) = false by simp [c2']]
  refine iteF ⟨_, rfl, _, _, rfl, rfl, _, rfl, ?_⟩
  have up6 : ∀ {G : Hp} {n : Nat} {v : V}, Well G p → But p H8 G → Well (upd G F (.lst ([V.ref la, V.ref fa, V.ref lp, V.int d.wk, V.int d.hd, V.ref lw].set n v))) p ∧ But p H (upd G F (.lst ([V.ref la, V.ref fa, V.ref lp, V.int d.wk, V.int d.hd, V.ref lw].set n v))) := fun {G n v} wG bG => by
    refine ⟨?_, But.sub (b8.trans bG) nFH (But.of (Same.refl G))⟩
    obtain ⟨x, y, v, e⟩ := wG
    exact ⟨x, y, v, by rw [upd_ne (Ne.symm Fp)]; exact e⟩
  by_cases c3' : c = 3
  · subst c3'
    refine iteT ?_
    refine ⟨_, rfl, (show 5 ≤ sizeLine by decide), fun l1 m1 => ⟨_, rfl, (show 1 ≤ sizeLine by decide), fun u2 m2 => ⟨(show 6 ≤ sizeLine by decide), fun l2 m3 => ⟨(show 2 ≤ sizeLine by decide), fun l3 m4 => ?_⟩⟩⟩⟩
    have Y1 := Same.new (o := .lst [.int 0, .int 3, .bl true, .non, .str "1"]) m1
    have Y2 := Same.new (o := .tup [.int 1]) m2
    have Y3 := Same.new (o := .lst [.int (-1), .int 3, .bl true, .non, .str "1", .ref u2]) m3
    have Y4 := Same.new (o := .lst [.ref l1, .ref l2]) m4
    have Y := ((Y1.trans Y2).trans Y3).trans Y4
    have g1 := Y4 _ _ (Y3 _ _ (Y2 _ _ (upd_same (H := H8) (a := l1) (o := .lst [.int 0, .int 3, .bl true, .non, .str "1"]))))
    have g2 := Y4 _ _ (Y3 _ _ (upd_same (H := upd H8 l1 (.lst [.int 0, .int 3, .bl true, .non, .str "1"])) (a := u2) (o := .tup [.int 1])))
    have g3 := Y4 _ _ (upd_same (H := upd (upd H8 l1 (.lst [.int 0, .int 3, .bl true, .non, .str "1"])) u2 (.tup [.int 1])) (a := l2) (o := .lst [.int (-1), .int 3, .bl true, .non, .str "1", .ref u2]))
    have g4 := upd_same (H := upd (upd (upd H8 l1 (.lst [.int 0, .int 3, .bl true, .non, .str "1"])) u2 (.tup [.int 1])) l2 (.lst [.int (-1), .int 3, .bl true, .non, .str "1", .ref u2])) (a := l3) (o := .lst [.ref l1, .ref l2])
    have u2F : u2 ≠ F := fun z => by
      have := Y1 _ _ hF8
      rw [z, this] at m2
      cases m2
    have u2p := (w8.same Y1).new m2
    have lxp : l1 ≠ p := w8.new m1
    have w9 := w8.same Y
    have hF9 := Y _ _ hF8
    refine ⟨_, rfl, _, _, rfl, rfl, ?_⟩
    refine ⟨l3, _, 0, _, rfl, rfl, SqL.of g4, rfl, ?_⟩
    dsimp only [tNil]
    refine ⟨p, l1, _, rfl, w9, lxp, g1, (show 0 < 5 by decide), (show 5 < 1073741824 by decide), fun G x hx wG bG => ?_⟩
    have bG8 : But p H8 G := (But.of Y).trans bG
    have hFG := bG _ _ Fp hF9
    obtain ⟨wG', bG'⟩ := up6 (n := 3) (v := x) wG bG8
    have hF' := upd_same (H := G) (a := F) (o := .lst ([V.ref la, V.ref fa, V.ref lp, V.int d.wk, V.int d.hd, V.ref lw].set 3 x))
    have g2' : ∀ G', Bx2 p F (upd G F (.lst ([V.ref la, V.ref fa, V.ref lp, V.int d.wk, V.int d.hd, V.ref lw].set 3 x))) G' → G' u2 = some (.tup [.int 1]) := fun G' g => g _ _ u2p u2F ((upd_ne u2F).trans (bG _ _ u2p g2)) fun _ z => by cases z
    refine ⟨_, rfl, _, rfl, F, _, 3, 3, rfl, rfl, hFG, rfl, ?_⟩
    generalize upd G F (.lst ([V.ref la, V.ref fa, V.ref lp, V.int d.wk, V.int d.hd, V.ref lw].set 3 x)) = G' at wG' bG' hF' g2' ⊢
    have sv : ∃ r, Sur (fun G x q => Par.At K G x q) p F G' x (.wk r) ∧ eQ (d.bnt ws ps bs fa) (.wk r) = some (-1) := by
      simp only [List.mem_cons, List.not_mem_nil, or_false] at hx
      rcases hx with rfl | rfl | rfl | rfl | rfl
      · exact ⟨some 0, fun G g H' _ => .inl ⟨0, rfl, rfl⟩, rfl⟩
      · exact ⟨some 3, fun G g H' _ => .inl ⟨3, rfl, rfl⟩, rfl⟩
      · exact ⟨none, fun G g H' _ => .inr ⟨.bl, rfl⟩, rfl⟩
      · exact ⟨none, fun G g H' _ => .inr ⟨.non, rfl⟩, rfl⟩
      · exact ⟨none, fun G g H' _ => .inr ⟨.str, rfl⟩, rfl⟩
    obtain ⟨r, sr, er⟩ := sv
    refine ⟨_, rfl, (show 2 ≤ sizeLine by decide), fun l5 m5 => ⟨_, rfl, _, _, rfl, rfl, l5, _, 0, _, rfl, rfl, SqL.of upd_same, rfl, _, rfl, (show 2 ≤ sizeLine by decide), fun D2 m6 => ⟨(show 2 ≤ sizeLine by decide), fun t3 m7 => ?_⟩⟩⟩
    have Y5 := Same.new (o := .lst [.str "workers", .str "hands"]) m5
    exact fin (.wk r) x (-1) _ D2 t3 (wG'.same Y5) (bG'.trans (But.of Y5)) (Y5 _ _ hF') (sr.on (.same Y5)) er m6 m7
  by_cases c4' : c = 4
  · subst c4'
    refine iteT ?_
    refine ⟨_, rfl, (show 5 ≤ sizeLine by decide), fun l1 m1 => ⟨_, rfl, (show 1 ≤ sizeLine by decide), fun u2 m2 => ⟨(show 6 ≤ sizeLine by decide), fun l2 m3 => ⟨(show 2 ≤ sizeLine by decide), fun l3 m4 => ?_⟩⟩⟩⟩
    have Y1 := Same.new (o := .lst [.int 0, .int 3, .bl true, .non, .str "1"]) m1
    have Y2 := Same.new (o := .tup [.int 1]) m2
    have Y3 := Same.new (o := .lst [.int (-1), .int 3, .bl true, .non, .str "1", .ref u2]) m3
    have Y4 := Same.new (o := .lst [.ref l1, .ref l2]) m4
    have Y := ((Y1.trans Y2).trans Y3).trans Y4
    have g1 := Y4 _ _ (Y3 _ _ (Y2 _ _ (upd_same (H := H8) (a := l1) (o := .lst [.int 0, .int 3, .bl true, .non, .str "1"]))))
    have g2 := Y4 _ _ (Y3 _ _ (upd_same (H := upd H8 l1 (.lst [.int 0, .int 3, .bl true, .non, .str "1"])) (a := u2) (o := .tup [.int 1])))
    have g3 := Y4 _ _ (upd_same (H := upd (upd H8 l1 (.lst [.int 0, .int 3, .bl true, .non, .str "1"])) u2 (.tup [.int 1])) (a := l2) (o := .lst [.int (-1), .int 3, .bl true, .non, .str "1", .ref u2]))
    have g4 := upd_same (H := upd (upd (upd H8 l1 (.lst [.int 0, .int 3, .bl true, .non, .str "1"])) u2 (.tup [.int 1])) l2 (.lst [.int (-1), .int 3, .bl true, .non, .str "1", .ref u2])) (a := l3) (o := .lst [.ref l1, .ref l2])
    have u2F : u2 ≠ F := fun z => by
      have := Y1 _ _ hF8
      rw [z, this] at m2
      cases m2
    have u2p := (w8.same Y1).new m2
    have lxp : l2 ≠ p := ((w8.same Y1).same Y2).new m3
    have w9 := w8.same Y
    have hF9 := Y _ _ hF8
    refine ⟨_, rfl, _, _, rfl, rfl, ?_⟩
    refine ⟨l3, _, 1, _, rfl, rfl, SqL.of g4, rfl, ?_⟩
    dsimp only [tNil]
    refine ⟨p, l2, _, rfl, w9, lxp, g3, (show 0 < 6 by decide), (show 6 < 1073741824 by decide), fun G x hx wG bG => ?_⟩
    have bG8 : But p H8 G := (But.of Y).trans bG
    have hFG := bG _ _ Fp hF9
    obtain ⟨wG', bG'⟩ := up6 (n := 4) (v := x) wG bG8
    have hF' := upd_same (H := G) (a := F) (o := .lst ([V.ref la, V.ref fa, V.ref lp, V.int d.wk, V.int d.hd, V.ref lw].set 4 x))
    have g2' : ∀ G', Bx2 p F (upd G F (.lst ([V.ref la, V.ref fa, V.ref lp, V.int d.wk, V.int d.hd, V.ref lw].set 4 x))) G' → G' u2 = some (.tup [.int 1]) := fun G' g => g _ _ u2p u2F ((upd_ne u2F).trans (bG _ _ u2p g2)) fun _ z => by cases z
    refine ⟨_, rfl, _, rfl, F, _, 4, 4, rfl, rfl, hFG, rfl, ?_⟩
    generalize upd G F (.lst ([V.ref la, V.ref fa, V.ref lp, V.int d.wk, V.int d.hd, V.ref lw].set 4 x)) = G' at wG' bG' hF' g2' ⊢
    have sv : ∃ r, Sur (fun G x q => Par.At K G x q) p F G' x (.hd r) ∧ eQ (d.bnt ws ps bs fa) (.hd r) = some (-1) := by
      simp only [List.mem_cons, List.not_mem_nil, or_false] at hx
      rcases hx with rfl | rfl | rfl | rfl | rfl | rfl
      · exact ⟨some (-1), fun G g H' _ => .inl ⟨-1, rfl, rfl⟩, rfl⟩
      · exact ⟨some 3, fun G g H' _ => .inl ⟨3, rfl, rfl⟩, rfl⟩
      · exact ⟨none, fun G g H' _ => .inr ⟨.bl, rfl⟩, rfl⟩
      · exact ⟨none, fun G g H' _ => .inr ⟨.non, rfl⟩, rfl⟩
      · exact ⟨none, fun G g H' _ => .inr ⟨.str, rfl⟩, rfl⟩
      · exact ⟨none, fun G g H' s => .inr ⟨.tup (s _ _ (g2' G g)), rfl⟩, rfl⟩
    obtain ⟨r, sr, er⟩ := sv
    refine ⟨_, rfl, (show 2 ≤ sizeLine by decide), fun l5 m5 => ⟨_, rfl, _, _, rfl, rfl, l5, _, 1, _, rfl, rfl, SqL.of upd_same, rfl, _, rfl, (show 2 ≤ sizeLine by decide), fun D2 m6 => ⟨(show 2 ≤ sizeLine by decide), fun t3 m7 => ?_⟩⟩⟩
    have Y5 := Same.new (o := .lst [.str "workers", .str "hands"]) m5
    exact fin (.hd r) x (-1) _ D2 t3 (wG'.same Y5) (bG'.trans (But.of Y5)) (Y5 _ _ hF') (sr.on (.same Y5)) er m6 m7
  obtain rfl : c = 5 := by omega
  refine iteF ?_
  have ql := SqL.of (K := K) pt8.hl
  refine ⟨(show 2 ≤ sizeLine by decide), fun a1 m1 => ⟨(show 2 ≤ sizeLine by decide), fun a2 m2 => ⟨(show 1 ≤ sizeLine by decide), fun a3 m3 => ⟨(show 2 ≤ sizeLine by decide), fun a4 m4 => ?_⟩⟩⟩⟩
  have Y1 := Same.new (o := .tup [.int 0, .int 0]) m1
  have Y2 := Same.new (o := .tup [.int 0, .int 1]) m2
  have Y3 := Same.new (o := .tup [.int 1]) m3
  have Y4 := Same.new (o := .lst [.int 1, .int 0]) m4
  have Y := ((Y1.trans Y2).trans Y3).trans Y4
  have g1 := Y4 _ _ (Y3 _ _ (Y2 _ _ (upd_same (H := H8) (a := a1) (o := .tup [.int 0, .int 0]))))
  have g2 := Y4 _ _ (Y3 _ _ (upd_same (H := upd H8 a1 (.tup [.int 0, .int 0])) (a := a2) (o := .tup [.int 0, .int 1])))
  have g3 := Y4 _ _ (upd_same (H := upd (upd H8 a1 (.tup [.int 0, .int 0])) a2 (.tup [.int 0, .int 1])) (a := a3) (o := .tup [.int 1]))
  have g4 := upd_same (H := upd (upd (upd H8 a1 (.tup [.int 0, .int 0])) a2 (.tup [.int 0, .int 1])) a3 (.tup [.int 1])) (a := a4) (o := .lst [.int 1, .int 0])
  have a4F : a4 ≠ F := fun z => by
    have := Y3 _ _ (Y2 _ _ (Y1 _ _ hF8))
    rw [z, this] at m4
    cases m4
  have a4p := (((w8.same Y1).same Y2).same Y3).new m4
  refine ⟨_, rfl, l, _, 2, _, rfl, rfl, ql.same Y, rfl, lp, ps, rfl, .inl (SqL.of (Y _ _ pt8.hp)), (show 2 ≤ sizeLine by decide), fun a5 m5 => ?_⟩
  have pt4 := pt8.bx w8 (Bx.same Y)
  have w4 := w8.same Y
  have b4 := b8.trans (But.of Y)
  have hF4 := Y _ _ hF8
  generalize upd (upd (upd (upd H8 a1 (.tup [.int 0, .int 0])) a2 (.tup [.int 0, .int 1])) a3 (.tup [.int 1])) a4 (.lst [.int 1, .int 0]) = HA at Y g1 g2 g3 g4 m5 pt4 w4 b4 hF4 ⊢
  clear Y1 Y2 Y3 Y4 m1 m2 m3 m4
  refine ⟨(show 2 ≤ sizeLine by decide), fun a6 m6 => ⟨_, rfl, (show 2 ≤ sizeLine by decide), fun a7 m7 => ⟨(show 2 ≤ sizeLine by decide), fun a8 m8 => ⟨(show 2 ≤ sizeLine by decide), fun a9 m9 => ⟨(show 11 ≤ sizeLine by decide), fun n2 m10 => ?_⟩⟩⟩⟩⟩
  have Z5 := Same.new (o := .tup [.int (ps.length : Nat), .int 0]) m5
  have Z6 := Same.new (o := .tup [.bl true, .int 0]) m6
  have Z7 := Same.new (o := .tup [.int 1, .int (-1)]) m7
  have Z8 := Same.new (o := .tup [.int 1, .bl false]) m8
  have Z9 := Same.new (o := .tup [.str "1", .int 0]) m9
  have Z10 := Same.new (o := .lst [.non, .int 5, .ref a1, .ref a2, .ref a3, .ref a4, .ref a5, .ref a6, .ref a7, .ref a8, .ref a9]) m10
  have n2p := (((((w4.same Z5).same Z6).same Z7).same Z8).same Z9).new m10
  have X := ((((Z5.trans Z6).trans Z7).trans Z8).trans Z9).trans Z10
  have g5 := Z10 _ _ (Z9 _ _ (Z8 _ _ (Z7 _ _ (Z6 _ _ (upd_same (H := HA) (a := a5) (o := .tup [.int (ps.length : Nat), .int 0]))))))
  have g6 := Z10 _ _ (Z9 _ _ (Z8 _ _ (Z7 _ _ (upd_same (a := a6) (o := .tup [.bl true, .int 0])))))
  have g7 := Z10 _ _ (Z9 _ _ (Z8 _ _ (upd_same (a := a7) (o := .tup [.int 1, .int (-1)]))))
  have g8 := Z10 _ _ (Z9 _ _ (upd_same (a := a8) (o := .tup [.int 1, .bl false])))
  have g9 := Z10 _ _ (upd_same (a := a9) (o := .tup [.str "1", .int 0]))
  have h2 : _ = some (HO.lst [.non, .int 5, .ref a1, .ref a2, .ref a3, .ref a4, .ref a5, .ref a6, .ref a7, .ref a8, .ref a9]) := upd_same (H := upd (upd (upd (upd (upd HA a5 (.tup [.int (ps.length : Nat), .int 0])) a6 (.tup [.bl true, .int 0])) a7 (.tup [.int 1, .int (-1)])) a8 (.tup [.int 1, .bl false])) a9 (.tup [.str "1", .int 0])) (a := n2)
  have w9 := w4.same X
  have b9 := b4.trans (But.of X)
  have hF9 := X _ _ hF4
  have pt9 := pt4.bx w4 (Bx.same X)
  replace g1 := X _ _ g1
  replace g2 := X _ _ g2
  replace g3 := X _ _ g3
  replace g4 := X _ _ g4
  refine ⟨_, rfl, _, rfl, l, _, 5, _, rfl, rfl, SqL.of pt9.hl, rfl, _, rfl, ?_⟩
  dsimp only [tNil]
  generalize upd (upd (upd (upd (upd (upd HA a5 (.tup [.int (ps.length : Nat), .int 0])) a6 (.tup [.bl true, .int 0])) a7 (.tup [.int 1, .int (-1)])) a8 (.tup [.int 1, .bl false])) a9 (.tup [.str "1", .int 0])) n2 (.lst [.non, .int 5, .ref a1, .ref a2, .ref a3, .ref a4, .ref a5, .ref a6, .ref a7, .ref a8, .ref a9]) = H9 at w9 b9 hF9 pt9 h2 g1 g2 g3 g4 g5 g6 g7 g8 g9 ⊢
  have eW : Each (Sur (WyO K) p F) H9 bs (d.rs.map some) := ⟨by rw [List.length_map]; exact pt9.b.1, fun i z e => by
    obtain ⟨r, er, hr⟩ := pt9.b.2 i z e
    exact ⟨some r, by rw [List.getElem?_map, er]; rfl, fun G g => hr.fx (g.fx w9 hF9)⟩⟩
  have tn : ∀ {a : Addr} {xs : List V} {G : Hp}, H9 a = some (.tup xs) → Bx2 p F H9 G → G a = some (.tup xs) := fun {a xs G} e g => g _ _ (fun z => by
    obtain ⟨_, _, _, w⟩ := w9
    rw [z, w] at e
    cases e) (fun z => by
    rw [z, hF9] at e
    cases e) e fun _ z => by cases z
  refine ben_use w9 hF9 pt9.hw pt9.nw h2 n2p (show 0 < 11 by decide) (show 11 ≤ 100 by decide) pt9.lb eW (no := fun q => wayO q (lnP (d.bnt ws ps bs fa) : Nat) = false) (fun y' hy' => ?_) (fun t v i r G wG bG ht sv bt nv yv => ?_)
  · simp only [List.mem_cons, List.not_mem_nil, or_false] at hy'
    rcases hy' with rfl | rfl | rfl | rfl | rfl | rfl | rfl | rfl | rfl | rfl | rfl
    · exact ⟨none, rfl, fun G g => .inl ⟨_, .non, fun _ z => by cases z⟩⟩
    · exact ⟨none, rfl, fun G g => .inl ⟨_, .int, fun _ z => by cases z⟩⟩
    · exact ⟨some (0, 0), by simp [wayO, wayB, btwB], fun G g => ⟨a1, rfl, SqT.of (tn g1 g)⟩⟩
    · exact ⟨some (0, 1), by simp [wayO, wayB, btwB], fun G g => ⟨a2, rfl, SqT.of (tn g2 g)⟩⟩
    · exact ⟨none, rfl, fun G g => .inr (.inl ⟨a3, _, rfl, SqT.of (tn g3 g), by decide⟩)⟩
    · exact ⟨none, rfl, fun G g => .inl ⟨_, .lst (SqL.of (g _ _ a4p a4F g4 fun _ z => by cases z)) (.cons .int (.cons .int .nil)), fun _ z => by cases z⟩⟩
    · refine ⟨some ((ps.length : Nat), 0), ?_, fun G g => ⟨a5, rfl, SqT.of (tn g5 g)⟩⟩
      show (btwB (some ((ps.length : Nat) : Int)) 0 (((ps.length : Nat) : Int) - 1) && _) = false
      rw [show btwB (some ((ps.length : Nat) : Int)) 0 (((ps.length : Nat) : Int) - 1) = false by simp [btwB]; omega, Bool.false_and]
    · exact ⟨none, rfl, fun G g => .inr (.inr ⟨a6, _, _, none, some 0, rfl, SqT.of (tn g6 g), fun H' => ⟨.inr ⟨.bl, rfl⟩, .inl ⟨0, rfl, rfl⟩⟩, .inl rfl⟩)⟩
    · exact ⟨some (1, -1), by simp [wayO, wayB, btwB], fun G g => ⟨a7, rfl, SqT.of (tn g7 g)⟩⟩
    · exact ⟨none, rfl, fun G g => .inr (.inr ⟨a8, _, _, some 1, none, rfl, SqT.of (tn g8 g), fun H' => ⟨.inl ⟨1, rfl, rfl⟩, .inr ⟨.bl, rfl⟩⟩, .inr rfl⟩)⟩
    · exact ⟨none, rfl, fun G g => .inr (.inr ⟨a9, _, _, none, some 0, rfl, SqT.of (tn g9 g), fun H' => ⟨.inr ⟨.str, rfl⟩, .inl ⟨0, rfl, rfl⟩⟩, .inl rfl⟩)⟩
  have hFG := bG _ _ Fp hF9
  refine ⟨t, _, rfl, SqT.of ht, rfl, ?_⟩
  refine ⟨_, _, rfl, _, rfl, F, _, 5, 5, rfl, rfl, hFG, rfl, ?_⟩
  have hF' := upd_same (H := G) (a := F) (o := .lst ([V.ref la, V.ref fa, V.ref lp, V.int d.wk, V.int d.hd, V.ref lw].set 5 v))
  have wG' : Well (upd G F (.lst ([V.ref la, V.ref fa, V.ref lp, V.int d.wk, V.int d.hd, V.ref lw].set 5 v))) p := by
    obtain ⟨x, y, v, e⟩ := wG
    exact ⟨x, y, v, by rw [upd_ne (Ne.symm Fp)]; exact e⟩
  have bG' := But.sub (u := .lst ([V.ref la, V.ref fa, V.ref lp, V.int d.wk, V.int d.hd, V.ref lw].set 5 v)) (b9.trans bG) nFH (But.of (Same.refl G))
  have sv' := sv.on (Bx2.upd (o := .lst ([V.ref la, V.ref fa, V.ref lp, V.int d.wk, V.int d.hd, V.ref lw].set 5 v)))
  have eQ' := bent_b good rfl bt fun z hz => by
    obtain ⟨y, _, e⟩ := List.mem_map.mp hz
    exact ⟨y, e.symm⟩
  refine ⟨_, _, rfl, ?_⟩
  refine ⟨rfl, ?_⟩
  exact ⟨_, rfl, _, rfl, (show 2 ≤ sizeLine by decide), fun D2 m2 => ⟨(show 2 ≤ sizeLine by decide), fun t3 m3 => fin (.b r) v i _ D2 t3 wG' bG' hF' sv' eQ' m2 m3⟩⟩
end
end K09

set_option maxRecDepth 100000
set_option maxHeartbeats 4000000
namespace K09
open PySem PySem.Spec PyProof.Rows L2 He VH RZ
open LamX (Fx)
/-! what _law_spoilt_right needs -/
theorem tabs_off {Tt : List (Addr × Str)} {H H' : Hp} {l : Addr} {ys : List V} (t : LamX.Tabs Tt H) (hl : H l = some (.lst ys)) (b : But l H H') : LamX.Tabs Tt H' := fun q hp => by
  obtain ⟨ps, h1, h2, h3⟩ := t q hp
  have n1 : q.1 ≠ l := fun z => by rw [z, hl] at h1; cases h1
  refine ⟨ps, b _ _ n1 h1, h2, fun pos cv hc => ?_⟩
  obtain ⟨c, e1, e2⟩ := h3 pos cv hc
  refine ⟨c, e1, b _ _ (fun z => ?_) e2⟩
  rw [z, hl] at e2
  unfold LamX.CodeO at e2
  cases e2
theorem _root_.L2.Well.lst {H : Hp} {a : Addr} (w : Well H a) : ∃ zs, H a = some (.lst zs) := by
  obtain ⟨_, _, _, w⟩ := w
  exact ⟨_, w⟩
theorem tabs_but {Tt : List (Addr × Str)} {H H' : Hp} {p : Addr} (t : LamX.Tabs Tt H) (w : Well H p) (b : But p H H') : LamX.Tabs Tt H' := by
  obtain ⟨zs, hz⟩ := w.lst
  exact tabs_off t hz b
theorem is_bad {K : PySem.W.Frag} {H : Hp} {x0 x1 x2 x3 x4 x5 : V} {t : Bnt} {ws ps bs : List V} {fa : Addr} {d : Ro} (bt : BntAt K H x0 x1 x2 x3 x4 x5 t) (is : t.Is ws ps bs fa d) (h : d.Ok) : t.bad = none := by
  have lw : ws.length = d.zs.length := by
    have := bt.w
    rw [is.w] at this
    obtain ⟨_, _, _, e, _⟩ := this
    rw [e.1, List.length_map]
  have lp : ps.length = d.ds.length := by
    have := bt.p
    rw [is.p] at this
    obtain ⟨_, _, _, e, _⟩ := this
    rw [e.1, List.length_map]
  have ew : eW t = none := by
    unfold eW
    rw [is.w]
    have z1 := h.z1
    have z4 := h.z4
    show (if 1 ≤ ws.length ∧ ws.length ≤ 4 then (badN (d.zs.map some)).map fun k : Nat => (k : Int) else some (-1)) = none
    rw [if_pos ⟨by omega, by omega⟩, h.zn]
    rfl
  have ef : eF t = none := by unfold eF; rw [is.f]
  have kn : knW t = d.zs := by
    unfold knW
    rw [is.w]
    show (d.zs.map some).filterMap id = d.zs
    rw [List.filterMap_map, show List.filterMap (id ∘ some) d.zs = d.zs.filterMap some from rfl, List.filterMap_some]
  have ep : eP t = none := by
    unfold eP
    rw [is.p, kn]
    have p1 := h.p1
    have p6 := h.p6
    show (if 1 ≤ ps.length ∧ ps.length ≤ 6 then (badP (d.ds.map some) d.zs).map fun k : Nat => (k : Int) else some (-1)) = none
    rw [if_pos ⟨by omega, by omega⟩, h.pn]
    rfl
  have ek : eK t = none := by
    unfold eK
    rw [is.wk, if_pos (by simp [btwB, h.w1, h.w2])]
  have eh : eH t = none := by
    unfold eH
    rw [is.hd, if_pos (by simp [btwB, h.h0, h.h2])]
  have ln : lnP t = d.ds.length := by
    unfold lnP
    rw [is.p]
    exact lp
  have eb : eB t = none := by
    unfold eB
    rw [is.b, ln]
    show (badY (d.rs.map some) (d.ds.length : Nat)).map (fun k : Nat => (k : Int)) = none
    rw [h.bn]
    rfl
  exact Good.bad ⟨ew, ef, ep, ek, eh, eb⟩
theorem Par.ix6 (q : Par) : q.ix < 6 := by cases q <;> simp [Par.ix]
theorem Par.nameIx (q : Par) : names6[q.ix]? = some q.name := by cases q <;> rfl
theorem names_ne : ∀ k : Fin 6, ∀ m : Fin 6, m.1 < k.1 → eqV (V.str (names6.getD m.1 "")) (V.str (names6.getD k.1 "")) = false := by decide +kernel
theorem Par.before (q : Par) (m : Nat) (z' : V) (hm : m < q.ix) (e : (names6.map V.str)[m]? = some z') : eqV z' (V.str q.name) = false := by
  have l6 := q.ix6
  have h := names_ne ⟨q.ix, l6⟩ ⟨m, by omega⟩ hm
  rw [List.getElem?_map] at e
  obtain ⟨u, eu, rfl⟩ := Option.map_eq_some_iff.mp e
  have e1 : names6.getD m "" = u := by rw [List.getD_eq_getElem?_getD, eu]; rfl
  have e2 : names6.getD q.ix "" = q.name := by rw [List.getD_eq_getElem?_getD, q.nameIx]; rfl
  simpa only [e1, e2] using h
theorem eqV_str {u : Str} : eqV (.str u) (.str u) = true := by simp [eqV]
theorem eqV_int {i : Int} : eqV (.int i) (.int i) = true := by simp [eqV]
/-- a pair told, and the same pair -/
theorem pair_B {K : PySem.W.Frag} {H : Hp} {a b : Addr} {u : Str} {i : Int} (h1 : H a = some (.tup [.str u, .int i])) (h2 : H b = some (.tup [.str u, .int i])) : BTup K BFlat (.ref a) (.ref b) true H :=
  ⟨a, b, _, _, [true, true], rfl, rfl, SqT.of h1, SqT.of h2, .cons ⟨rfl, rfl, eqV_str⟩ (.cons ⟨rfl, rfl, eqV_int⟩ .nil), rfl⟩
theorem set_parts {α : Type} {l : List α} {i : Nat} {x : α} (h : i < l.length) : l.take i ++ [x] ++ l.drop (i + 1) = l.set i x := by
  rw [List.set_eq_take_append_cons_drop, if_pos h, List.append_assoc]
  rfl
end K09

set_option maxRecDepth 100000
set_option maxHeartbeats 4000000
namespace K09
open PySem PySem.Spec PyProof.Rows L2 He VH RZ
open LamX (Fx)
/-! one part replaced, and two of them -/
abbrev sSr : Stmt := top 73
abbrev nSr : List Str := ["_law_well_here", "_law_parts_here", "_law_few", "_law_due", "_law_more", "_law_late", "_law_titles_here", "_law_at", "_law_spot"]
theorem scSr : FnScope nSr ["_law_well_here", "_law_parts_here"] (defScope sSr) := ⟨rfl, rfl, rfl, by decide +kernel, rfl, by decide +kernel, by decide +kernel⟩
abbrev SrCx (P : Program) (w : World) (K : PySem.W.Frag) (mg : Str → Option Value) (base : Heap) (f : Addr) (cdv : Value) (A : Around) (outer : List Env) (s : Shared) (H : Hp) (E : XK) (pn : List (Addr × Obj)) : Cx :=
  (cxOf CX0 P w K mg base nSr "_law_spoilt_right" (defScope sSr) f cdv A outer s H E).tr pn (fun _ _ => False)
/-- a def whose code object is known -/
theorem okC {P : Program} {w : World} {K : PySem.W.Frag} {mg : Str → Option Value} {base : Heap} {x qual : Str} {params : Arguments} {body : List Stmt} {scope : Scope} {dvs : List V} {kws : List (Str × V)} {p : He.Defn} {c : Addr} {fd : FuncData} {CX : CXT} {N ps : List Str} {k : Nat} {sp : Sp}
    (F : FunD K x qual params body scope dvs kws (He.fAd K p) fd) (hc : He.codeOf K p = c) (S : FnScope N ps scope) (len : ∀ vs H Q E, sp vs H Q E → vs.length = ps.length)
    (hbody : ∀ (A : Around) (outer : List Env) (s : Shared) (H : Hp) (vs : List V) (Q : VK) (E : XK), Room k (A.deeper (envOfC qual scope s.heap.objs.size (He.fAd K p) (.ref c))) → sp vs H Q E →
      ∃ t, PSs (cxOf CX P w K mg base N qual scope (He.fAd K p) (.ref c) A outer s H E) body t ∧ t { nx := fun _ H' => Q .non H', rt := Q } (L2.start N vs) H) : FnOk P w K mg base CX (k + 1) (He.fAd K p) fd ps sp := by
  obtain ⟨oc, od, dV, kV, doc, pm, an, cdv, ct, osl, rfl, lk, hcd, _, _⟩ := F.ex
  obtain ⟨c1, rfl⟩ := He.codeIn_ref hcd
  have e : He.codeOf K p = c1 := He.codeOf_eq lk rfl
  obtain rfl : c1 = c := e.symm.trans hc
  exact fn_of lk hcd S len fun A outer s H vs Q E hr hsp => hbody A outer s H vs Q E hr hsp
theorem lam_pass {X : Cx} {A : Around} {outer : List Env} {s : Shared} {H : Hp} {E : XK} {scope : Scope} {f c' : Addr} : Passes (L2.CX X.prog X.w) (LamX.lamCx X A outer s H E scope f c') E :=
  passes_call (takes_of rfl rfl rfl rfl) (fun _ _ _ _ h => h)
def spSr (K : PySem.W.Frag) (Tt : List (Addr × Str)) : Sp := fun vs H Q _ => ∃ (p l la fa lp lw : Addr) (ws ps bs : List V) (d : Rd), vs = [.ref p, .ref l] ∧ Well H p ∧ LamX.Tabs Tt H ∧ Pt K H p l la fa lp lw ws ps bs d ∧ ∀ H' : Hp, Well H' p → LamX.Tabs Tt H' → Bx p H H' → Q (.bl true) H'
abbrev FnSr (K : PySem.W.Frag) (fd : FuncData) : Prop := FnP K "_law_spoilt_right" sSr (He.fAd K ("_law_spoilt_right", none)) fd
section
variable {P : Program} {w : World} {K : PySem.W.Frag} {mg : Str → Option Value} {base : Heap} {f c Pt : Addr} {fd : FuncData}
theorem ok_sr (F : FnSr K fd) (T : Txt K mg w) (fns : Fns K) {Tt : List (Addr × Str)} (hc : He.codeOf K ("_law_spoilt_right", none) = c) (TB : LamX.TabB base mg c Pt) (hm : ((Pt, ("_law_spoilt_right" ++ ".<locals>.") ++ "<lambda>") : Addr × Str) ∈ Tt) (hu' : ∀ p ∈ Tt, p.1 = Pt → p.2 = ("_law_spoilt_right" ++ ".<locals>.") ++ "<lambda>") :
    FnOk P w K mg base CX0 11 (He.fAd K ("_law_spoilt_right", none)) fd ["_law_well_here", "_law_parts_here"] (spSr K Tt) := by
  obtain ⟨fdZ, FZ⟩ := fns.f_l_spoilt
  obtain ⟨fdM, FM⟩ := fns.f_l_made
  obtain ⟨fdY, FY⟩ := fns.f_l_said
  have GZ : FnOk P w K mg base (L2.CX P w) 9 (ga K "_law_spoilt") fdZ ["_law_well_here", "_law_parts_here"] (spSpo K) := ok_spo FZ T fns
  have GM : FnOk P w K mg base (L2.CX P w) 7 (ga K "_law_made") fdM ["_law_parts_here"] (spMad K) := ok_mad FM T fns
  have FYk := FY.kp
  have b0 := bSaid FY
  refine okC F hc scSr (fun vs H Q E h => ?_) (fun A outer s H vs Q E hr h => ?_)
  · obtain ⟨_, _, _, _, _, _, _, _, _, _, rfl, _⟩ := h
    rfl
  have rm : ∀ {k : Nat}, k ≤ 10 → Room k (SrCx P w K mg base (He.fAd K ("_law_spoilt_right", none)) (.ref c) A outer s H E []).A := fun h => hr.mono h
  obtain ⟨oc, od, dV, kV, doc, pm, an, cdv, ct, osl, rfl, lk, hcd, _, _⟩ := FY.ex
  refine ⟨_, PSs.nox (pss_cons (ps_asg (X := (SrCx P w K mg base (He.fAd K ("_law_spoilt_right", none)) (.ref c) A outer s H E [])) (pe_call GZ (rm (by decide)) (by rfl) T.m_l_spoilt FZ.kp (bSpo FZ) .nil passN (pa_cons (pv 0) (pa_cons (pv 1) pa_nil))) (pg_tup (by rfl) (pgs_cons (pg_name (i := 2) scSr.nd rfl (Or.inr rfl)) (pgs_cons (pg_name (i := 3) scSr.nd rfl (Or.inl rfl)) pgs_nil))))
    (pss_cons (ps_if (pt_cmpR (op_neB (X := (SrCx P w K mg base (He.fAd K ("_law_spoilt_right", none)) (.ref c) A outer s H E [])) (rnB_tup monB_flat eqB_flat) (rm (by decide))) (LamX.pe_lamcall (X := (SrCx P w K mg base (He.fAd K ("_law_spoilt_right", none)) (.ref c) A outer s H E [])) (T := Tt) (TT := LamX.TTmix K 2 (clauses K) "told") (k := 7) (t := fun E => tCall (spMad K) [] E (tCons (tVar 2) tNil)) (by rfl) T.m_l_said FYk lk hcd b0 scSaid rfl (Or.inl rfl)
        (gives (X := (SrCx P w K mg base (He.fAd K ("_law_spoilt_right", none)) (.ref c) A outer s H E [])) T) TB rfl hm hu' (rm (by decide))
        (show LamX.LamS (defScope sSr) _ from LamX.lamS_by (by decide +kernel)) rfl (fun _ _ _ _ _ => rfl)
        (fun A outer s H E f c' hr => pe_call GM hr (by rfl) T.m_l_made FM.kp (bMad FM) .nil lam_pass (pa_cons (pv 2) pa_nil))) (pv 3) (nomark _)) (pss_one (ps_ret pe_bl)) pss_nil)
    (pss_cons (ps_asg (pe_call GZ (rm (by decide)) (by rfl) T.m_l_spoilt FZ.kp (bSpo FZ) .nil passN (pa_cons (pv 0) (pa_cons (pv 1) pa_nil))) (pg_tup (by rfl) (pgs_cons (pg_name (i := 4) scSr.nd rfl (Or.inl rfl)) (pgs_cons (pg_name (i := 5) scSr.nd rfl (Or.inl rfl)) pgs_nil))))
    (pss_cons (ps_set (i := 6) scSr.nd rfl (Or.inl rfl) (pe_lst (pa_cons pe_str (pa_cons pe_str (pa_cons pe_str (pa_cons pe_str (pa_cons pe_str (pa_cons pe_str pa_nil))))))))
    (pss_cons (ps_par (i := 7) (j := 8) rfl scSr.nd rfl rfl (by decide) rfl rfl (pa_cons (pe_bm PySem.F.plainAttrs_list PySem.F.slot_list_index PySem.F.type_list_index mt_index (pv 6) (pa_cons (pe_ix ix_tup (pv 3) pe_int (fun _ _ => rfl)) pa_nil)) (pa_cons (pe_bm PySem.F.plainAttrs_list PySem.F.slot_list_index PySem.F.type_list_index mt_index (pv 6) (pa_cons (pe_ix ix_tup (pv 5) pe_int (fun _ _ => rfl)) pa_nil)) pa_nil)) rfl)
    (pss_cons (ps_set (i := 2) scSr.nd rfl (Or.inr rfl) (pe_op op_catR (pe_op op_catR (pe_slice sl_list (pv 2) po_none (po_some (pv 8))) (pe_lst (pa_cons (pe_ix ix_list (pv 4) (pv 8) (fun _ _ => rfl)) pa_nil))) (pe_slice sl_list (pv 2) (po_some (pe_op op_add (pv 8) pe_int)) po_none)))
    (pss_one (ps_ret (pe_or (pe_cmpR op_ge (pv 7) (pv 8) (nomark _)) (pe_one (pe_cmpR (op_eqB (X := (SrCx P w K mg base (He.fAd K ("_law_spoilt_right", none)) (.ref c) A outer s H E [])) (rcB_tup monB_flat eqB_flat) (rm (by decide))) (LamX.pe_lamcall (X := (SrCx P w K mg base (He.fAd K ("_law_spoilt_right", none)) (.ref c) A outer s H E [])) (T := Tt) (TT := LamX.TTmix K 2 (clauses K) "told") (k := 7) (t := fun E => tCall (spMad K) [] E (tCons (tVar 2) tNil)) (by rfl) T.m_l_said FYk lk hcd b0 scSaid rfl (Or.inl rfl)
        (gives (X := (SrCx P w K mg base (He.fAd K ("_law_spoilt_right", none)) (.ref c) A outer s H E [])) T) TB rfl hm hu' (rm (by decide))
        (show LamX.LamS (defScope sSr) _ from LamX.lamS_by (by decide +kernel)) rfl (fun _ _ _ _ _ => rfl)
        (fun A outer s H E f c' hr => pe_call GM hr (by rfl) T.m_l_made FM.kp (bMad FM) .nil lam_pass (pa_cons (pv 2) pa_nil))) (pv 3) (nomark _)))))))))))), ?_⟩
  obtain ⟨p, l, la, fa, lp, lw, ws, ps, bs, d, rfl, wl, tb, pt, k⟩ := h
  have big : 1000 < sizeLine := by decide
  have good : Good (d.bnt ws ps bs fa) := d.good pt.ok pt.w.1 pt.p.1
  -- six parts at any time
  have base : ∀ {G : Hp}, Bx p H G → BntL K G [V.ref la, V.ref fa, V.ref lp, V.int d.wk, V.int d.hd, V.ref lw] (d.bnt ws ps bs fa) := fun {G} b => by
    have q := pt.bx wl b
    refine ⟨_, _, _, _, _, _, rfl, ⟨⟨la, rfl, .inl (SqL.of q.ha), each_is q.w, ?_⟩, ?_, ⟨lp, rfl, .inl (SqL.of q.hp), each_ph q.p q.lw, ?_⟩, fun H' _ => .inl ⟨_, rfl, rfl⟩, fun H' _ => .inl ⟨_, rfl, rfl⟩, ⟨lw, rfl, .inl (SqL.of q.hw), each_wy q.b, by have := q.lb; omega⟩⟩⟩
    · have := q.ok.z4
      have l1 := q.w.1
      have l2 : d.ro.zs.length = d.ws.length := List.length_map _
      omega
    · exact ⟨rfl, q.fk⟩
    · have : d.ds.length ≤ 6 := q.ok.p6
      have l1 := q.p.1
      omega
  refine ⟨_, rfl, _, rfl, p, l, la, fa, lp, lw, ws, ps, bs, d, rfl, wl, pt, fun q1 x1 i1 t1 F1 D1 G1 w1 b1 nF1 f1 hF1 hD1 ht1 par1 e1 => ?_⟩
  have tb1 := tabs_but tb wl b1
  refine ⟨t1, _, rfl, SqT.of ht1, rfl, _, _, rfl, _, _, rfl, rfl, ?_⟩
  refine ⟨tb1, fun G2 ex2 tb2 => ?_⟩
  have B1 : Bx p H G2 := (Bx.but b1).trans (Bx.ext ex2)
  have X12 : Bx p G1 G2 := Bx.ext ex2
  have w2 := w1.ext ex2
  have hF2 := X12.lst nF1 hF1
  have hD2 := ex2 _ _ hD1 (fun _ z => by cases z)
  have ht2 := ex2 _ _ ht1 (fun _ z => by cases z)
  have par2 := par1.bx X12
  have L1 := (base B1).put par2.here
  obtain ⟨y0, y1, y2, y3, y4, y5, ey, bt⟩ := L1
  have hF2' := hF2
  rw [ey] at hF2'
  refine ⟨_, rfl, F1, y0, y1, y2, y3, y4, y5, _, rfl, hF2', bt, fun u i e => told_no T fun G3 p2 np S3 hp2 => ?_, fun ws' ps' bs' fa' d' is ok => ?_⟩
  case refine_2 =>
    have := is_bad bt is ok
    rw [spoils1 good e1] at this
    cases this
  have ee := spoils1 good e1
  rw [e] at ee
  cases ee
  refine ⟨_, rfl, _, pair_B hp2 (S3 _ _ hD2), fun G4 S4 => ⟨_, rfl, iteF ?_⟩⟩
  have S24 : Same G2 G4 := S3.trans S4
  have w4 := w2.same S24
  have tb4 := tb2.ext S24
  have B4 := B1.trans (Bx.same S24)
  have hF4 := S24 _ _ hF2
  have hD4 := S24 _ _ hD2
  have par4 := par2.bx (Bx.same S24)
  clear S24 S3 S4 hp2 np e bt ey hF2' hF2 hD2 ht2 par2 hF1 hD1 ht1 par1 w2 tb2 B1 X12 ex2 w1 tb1 b1 y0 y1 y2 y3 y4 y5
  refine ⟨_, rfl, _, rfl, p, l, la, fa, lp, lw, ws, ps, bs, d, rfl, w4, pt.bx wl B4, fun q2 x2 i2 t2 F2 D2 G5 w5 b5 nF2 f2 hF5 hD5 ht5 par5 e2 => ?_⟩
  have D1p : D1 ≠ p := fun z => by
    obtain ⟨_, _, _, w⟩ := w4
    rw [z, w] at hD4
    cases hD4
  have tb5 := tabs_but tb4 w4 b5
  have B5 := B4.trans (Bx.but b5)
  have hFa := b5 _ _ nF1 hF4
  have hDa := b5 _ _ D1p hD4
  have par6 := par4.bx (Bx.but b5)
  refine ⟨t2, _, rfl, SqT.of ht5, rfl, _, _, rfl, _, _, rfl, rfl, ?_⟩
  refine ⟨(show 6 ≤ sizeLine by decide), fun L nL => ?_⟩
  have S5 := Same.new (o := .lst [.str "writers", .str "fill", .str "phases", .str "workers", .str "hands", .str "back"]) nL
  have hL : upd G5 L (.lst [.str "writers", .str "fill", .str "phases", .str "workers", .str "hands", .str "back"]) L = some (.lst (names6.map V.str)) := upd_same
  have w7 := w5.same S5
  have B7 := B5.trans (Bx.same S5)
  have tb7 := tb5.ext S5
  have par7 := par6.bx (Bx.same S5)
  have par8 := par5.bx (Bx.same S5)
  have hF7 := S5 _ _ hFa
  have hF8 := S5 _ _ hF5
  have hD7 := S5 _ _ hDa
  have hD8 := S5 _ _ hD5
  clear b5 hF4 hD4 par4 w4 tb4 B4 w5 tb5 B5 hFa hDa par6 par5 hF5 hD5 ht5 D1p
  refine ⟨_, rfl, .inl ⟨rfl, _, SqL.of hL⟩, _, rfl, D1, _, 0, _, rfl, rfl, SqT.of hD7, rfl, L, names6.map V.str, _, q1.ix, V.str q1.name, rfl, rfl, SqL.of hL, rfl, by decide +kernel, by rw [List.getElem?_map, q1.nameIx]; rfl, eqV_str, q1.before, ?_⟩
  refine ⟨_, rfl, .inl ⟨rfl, _, SqL.of hL⟩, _, rfl, D2, _, 0, _, rfl, rfl, SqT.of hD8, rfl, L, names6.map V.str, _, q2.ix, V.str q2.name, rfl, rfl, SqL.of hL, rfl, by decide +kernel, by rw [List.getElem?_map, q2.nameIx]; rfl, eqV_str, q2.before, ?_⟩
  refine ⟨_, _, rfl, ?_⟩
  generalize upd G5 L (.lst [.str "writers", .str "fill", .str "phases", .str "workers", .str "hands", .str "back"]) = G7 at S5 hL w7 B7 tb7 par7 par8 hF7 hF8 hD7 hD8 ⊢
  have len1 : ([V.ref la, V.ref fa, V.ref lp, V.int d.wk, V.int d.hd, V.ref lw].set q1.ix x1).length = 6 := List.length_set ..
  have len2 : ([V.ref la, V.ref fa, V.ref lp, V.int d.wk, V.int d.hd, V.ref lw].set q2.ix x2).length = 6 := List.length_set ..
  have i6 := q2.ix6
  have get2 : ([V.ref la, V.ref fa, V.ref lp, V.int d.wk, V.int d.hd, V.ref lw].set q2.ix x2)[q2.ix]? = some x2 := List.getElem?_set_self (by exact i6)
  refine ⟨_, rfl, _, rfl, _, rfl, F1, _, rfl, SqL.of hF7, fun u1 m1 => ?_⟩
  rw [cut_take (by omega)]
  have Z1 := Same.new (o := .lst (([V.ref la, V.ref fa, V.ref lp, V.int d.wk, V.int d.hd, V.ref lw].set q1.ix x1).take q2.ix)) m1
  have h1 : _ = some (HO.lst (([V.ref la, V.ref fa, V.ref lp, V.int d.wk, V.int d.hd, V.ref lw].set q1.ix x1).take q2.ix)) := upd_same (H := G7) (a := u1)
  generalize upd G7 u1 (.lst (([V.ref la, V.ref fa, V.ref lp, V.int d.wk, V.int d.hd, V.ref lw].set q1.ix x1).take q2.ix)) = G8 at Z1 h1 ⊢
  refine ⟨_, rfl, _, rfl, F2, _, (q2.ix : Nat), x2, rfl, rfl, SqL.of (Z1 _ _ hF8), atI_nat get2, (show 1 ≤ sizeLine by decide), fun u2 m2 => ?_⟩
  have Z2 := Same.new (o := .lst [x2]) m2
  have h2 : _ = some (HO.lst [x2]) := upd_same (H := G8) (a := u2)
  have h1' := Z2 _ _ h1
  generalize upd G8 u2 (.lst [x2]) = G9 at Z2 h2 h1' ⊢
  refine ⟨u1, u2, _, [x2], rfl, rfl, SqL.of h1', SqL.of h2, ?_, fun u3 m3 => ?_⟩
  · rw [List.length_take]
    simp only [List.length_cons, List.length_nil]
    omega
  have Z3 := Same.new (o := .lst (([V.ref la, V.ref fa, V.ref lp, V.int d.wk, V.int d.hd, V.ref lw].set q1.ix x1).take q2.ix ++ [x2])) m3
  have h3 : _ = some (HO.lst (([V.ref la, V.ref fa, V.ref lp, V.int d.wk, V.int d.hd, V.ref lw].set q1.ix x1).take q2.ix ++ [x2])) := upd_same (H := G9) (a := u3)
  generalize upd G9 u3 (.lst (([V.ref la, V.ref fa, V.ref lp, V.int d.wk, V.int d.hd, V.ref lw].set q1.ix x1).take q2.ix ++ [x2])) = G10 at Z3 h3 ⊢
  refine ⟨_, rfl, _, rfl, _, _, rfl, rfl, _, rfl, F1, _, rfl, SqL.of (Z3 _ _ (Z2 _ _ (Z1 _ _ hF7))), fun u4 m4 => ?_⟩
  rw [show ((q2.ix : Nat) : Int) + 1 = ((q2.ix + 1 : Nat) : Int) by omega, cut_dropN (by omega)]
  have Z4 := Same.new (o := .lst (([V.ref la, V.ref fa, V.ref lp, V.int d.wk, V.int d.hd, V.ref lw].set q1.ix x1).drop (q2.ix + 1))) m4
  have h4 : _ = some (HO.lst (([V.ref la, V.ref fa, V.ref lp, V.int d.wk, V.int d.hd, V.ref lw].set q1.ix x1).drop (q2.ix + 1))) := upd_same (H := G10) (a := u4)
  have h3' := Z4 _ _ h3
  generalize upd G10 u4 (.lst (([V.ref la, V.ref fa, V.ref lp, V.int d.wk, V.int d.hd, V.ref lw].set q1.ix x1).drop (q2.ix + 1))) = G11 at Z4 h4 h3' ⊢
  refine ⟨u3, u4, _, _, rfl, rfl, SqL.of h3', SqL.of h4, ?_, fun F3 m5 => ?_⟩
  · rw [List.length_append, List.length_take, List.length_drop]
    simp only [List.length_cons, List.length_nil]
    omega
  rw [set_parts (by omega)]
  have Z5 := Same.new (o := .lst (([V.ref la, V.ref fa, V.ref lp, V.int d.wk, V.int d.hd, V.ref lw].set q1.ix x1).set q2.ix x2)) m5
  have h5 : _ = some (HO.lst (([V.ref la, V.ref fa, V.ref lp, V.int d.wk, V.int d.hd, V.ref lw].set q1.ix x1).set q2.ix x2)) := upd_same (H := G11) (a := F3)
  have ZZ := ((((Z1.trans Z2).trans Z3).trans Z4).trans Z5)
  have F3p : F3 ≠ p := (((((w7.same Z1).same Z2).same Z3).same Z4)).new m5
  have B12 := B7.trans (Bx.same ZZ)
  have w12 := w7.same ZZ
  have tb12 := tb7.ext ZZ
  have par11 := par7.bx (Bx.same ZZ)
  have par12 := par8.bx (Bx.same ZZ)
  have hD12 := ZZ _ _ hD7
  generalize upd G11 F3 (.lst (([V.ref la, V.ref fa, V.ref lp, V.int d.wk, V.int d.hd, V.ref lw].set q1.ix x1).set q2.ix x2)) = G12 at h5 ZZ B12 w12 tb12 par11 par12 hD12 ⊢
  clear Z1 Z2 Z3 Z4 Z5 h1 h1' h2 h3 h3' h4 m1 m2 m3 m4 m5 hL S5 par7 par8 hF7 hF8 hD7 hD8 B7 w7 tb7 ZZ
  refine ⟨_, rfl, _, rfl, _, _, rfl, rfl, ?_⟩
  by_cases le : q2.ix ≤ q1.ix
  · refine ⟨true, by show V.bl (decide (((q2.ix : Nat) : Int) ≤ ((q1.ix : Nat) : Int))) = V.bl true; rw [decide_eq_true (by omega)], iteT ?_⟩
    exact k G12 w12 tb12 B12
  · refine ⟨false, by show V.bl (decide (((q2.ix : Nat) : Int) ≤ ((q1.ix : Nat) : Int))) = V.bl false; rw [decide_eq_false (by omega)], iteF ?_⟩
    refine ⟨tb12, fun G13 ex tb13 => ?_⟩
    have X13 : Bx p G12 G13 := Bx.ext ex
    have B13 := B12.trans X13
    have w13 := w12.ext ex
    have h6 := X13.lst F3p h5
    have hD13 := ex _ _ hD12 (fun _ z => by cases z)
    have LL13 := ((base B13).put (par11.bx X13).here).put (par12.bx X13).here
    obtain ⟨y0, y1, y2, y3, y4, y5, ey, bt⟩ := LL13
    rw [ey] at h6
    have ee := spoils2 good e1 (q2 := q2) (by omega)
    refine ⟨_, rfl, F3, y0, y1, y2, y3, y4, y5, _, rfl, h6, bt, fun u i e => told_no T fun G14 p3 np S14 hp3 => ?_, fun ws' ps' bs' fa' d' is ok => ?_⟩
    case refine_2 =>
      have := is_bad bt is ok
      rw [ee] at this
      cases this
    rw [ee] at e
    cases e
    refine ⟨_, rfl, _, pair_B hp3 (S14 _ _ hD13), fun G15 S15 => ?_⟩
    have SS : Same G13 G15 := S14.trans S15
    exact k G15 (w13.same SS) (tb13.ext SS) (B13.trans (Bx.same SS))
end
end K09

set_option maxRecDepth 100000
set_option maxHeartbeats 4000000
namespace K09
open PySem PySem.Spec PyProof.Rows L2 He VH RZ
open LamX (Fx)
/-! the law -/
abbrev sLaw : Stmt := top 74
abbrev nLaw : List Str := ["_law_script", "_law_k", "_law_well_here", "_law_parts_here", "_law_other", "_law_made_here", "_law_wants", "_law_lists", "_law_twin", "_law_at", "_law_some", "_law_mixed", "_law_turn", "_law_plain", "_law_few", "_law_one_here", "_law_word"]
theorem op_alt {X : Cx} {g} {r r' : R2} (h : OpR X g r) (h' : OpR X g r') : OpR X g (fun x y H Q => r x y H Q ∨ r' x y H Q) := fun pins s σ H x y v u Q I rx ry hq => hq.elim (fun q => h pins s σ H x y v u Q I rx ry q) fun q => h' pins s σ H x y v u Q I rx ry q
theorem scLaw : FnScope nLaw ["_law_script"] (defScope sLaw) := ⟨rfl, rfl, rfl, by decide +kernel, rfl, by decide +kernel, by decide +kernel⟩
abbrev LwCx (P : Program) (w : World) (K : PySem.W.Frag) (mg : Str → Option Value) (base : Heap) (f : Addr) (cdv : Value) (A : Around) (outer : List Env) (s : Shared) (H : Hp) (E : XK) (pn : List (Addr × Obj)) : Cx :=
  (cxOf CX0 P w K mg base nLaw "law" (defScope sLaw) f cdv A outer s H E).tr pn (fun _ _ => False)
def forB : Stmt → List Stmt
  | .For _ _ b _ _ => b
  | _ => []
def outB : List Stmt := forB ((defBody sLaw).getD 0 (.Pass ⟨0, 0, 0, 0⟩))
def mixB : List Stmt := forB (outB.getD 14 (.Pass ⟨0, 0, 0, 0⟩))
section
variable {P : Program} {w : World} {K : PySem.W.Frag} {mg : Str → Option Value} {base : Heap} {f c Pt : Addr} {A : Around} {outer : List Env} {s : Shared} {H0 : Hp} {E : XK} {pn : List (Addr × Obj)}
theorem segM (T : Txt K mg w) (fns : Fns K) {Tt : List (Addr × Str)} (TB : LamX.TabB base mg c Pt) (hm : ((Pt, ("law" ++ ".<locals>.") ++ "<lambda>") : Addr × Str) ∈ Tt) (hu' : ∀ p ∈ Tt, p.1 = Pt → p.2 = ("law" ++ ".<locals>.") ++ "<lambda>") (hr : Room 11 (LwCx P w K mg base f (.ref c) A outer s H0 E pn).A) :
    ∃ t, PSs (LwCx P w K mg base f (.ref c) A outer s H0 E pn) mixB t ∧ True := by
  obtain ⟨fdM, FM⟩ := fns.f_l_made
  obtain ⟨fdY, FY⟩ := fns.f_l_said
  obtain ⟨fdE, FE⟩ := fns.f_Rollout_eq
  obtain ⟨fdF, FF⟩ := fns.f_Fill_eq
  obtain ⟨fdW, FW⟩ := fns.f_Writer_eq
  obtain ⟨fdP, FP⟩ := fns.f_Phase_eq
  have GM : FnOk P w K mg base (L2.CX P w) 7 (ga K "_law_made") fdM ["_law_parts_here"] (spMad K) := ok_mad FM T fns
  have FYk := FY.kp
  have b0 := bSaid FY
  have rm : ∀ {k : Nat}, k ≤ 11 → Room k (LwCx P w K mg base f (.ref c) A outer s H0 E pn).A := fun h => hr.mono h
  obtain ⟨oc, od, dV, kV, doc, pm, an, cdv, ct, osl, rfl, lk, hcd, _, _⟩ := FY.ex
  refine ⟨_, pss_cons (ps_set (X := (LwCx P w K mg base f (.ref c) A outer s H0 E pn)) (i := 14) scLaw.nd rfl (Or.inr rfl) (pe_op op_catR (pe_op op_catR (pe_slice sl_list (pv 3) po_none (po_some (pv 9))) (pe_lst (pa_cons (pe_ix ix_list (pv 4) (pv 9) (fun _ _ => rfl)) pa_nil))) (pe_slice sl_list (pv 3) (po_some (pe_op op_add (pv 9) pe_int)) po_none)))
    (pss_cons (ps_set (i := 11) scLaw.nd rfl (Or.inl rfl) (LamX.pe_lamcall (X := (LwCx P w K mg base f (.ref c) A outer s H0 E pn)) (T := Tt) (TT := LamX.TTmix K 2 (clauses K) "told") (k := 7) (t := fun E => tCall (spMad K) [] E (tCons (tVar 14) tNil)) (by rfl) T.m_l_said FYk lk hcd b0 scSaid rfl (Or.inl rfl)
        (gives (X := (LwCx P w K mg base f (.ref c) A outer s H0 E pn)) T) TB rfl hm hu' (rm (by decide))
        (show LamX.LamS (defScope sLaw) _ from LamX.lamS_by (by decide +kernel)) rfl (fun _ _ _ _ _ => rfl)
        (fun A outer s H E f c' hr => pe_call GM hr (by rfl) T.m_l_made FM.kp (bMad FM) .nil lam_pass (pa_cons (pv 14) pa_nil))))
    (pss_one (ps_if (PW.pt (pw_and (pt_cmpR op_eq (pe_ix ix_tup (pv 11) pe_int (fun _ _ => rfl)) pe_str (nomark _)) (pw_and1 (pt_cmpR op_ne
        (pe_cmpR (op_eqB (X := (LwCx P w K mg base f (.ref c) A outer s H0 E pn)) (rcB_ins (ok_roE FE T FF FW FP) T.h_Rollout_eq.at_ T.h_Rollout_eq.fn (bRoE FE) pass0) (rm (by decide))) (pe_ix ix_tup (pv 11) pe_int (fun _ _ => rfl)) (pv 5) (nomark _))
        (pe_cmpR (op_alt (op_eqB (X := (LwCx P w K mg base f (.ref c) A outer s H0 E pn)) (rcB_list (monB_ins WrR.ext) (eqB_wr T FW)) (rm (by decide))) (op_alt (op_eqB (X := (LwCx P w K mg base f (.ref c) A outer s H0 E pn)) (rcB_ins (ok_flE FF T) T.h_Fill_eq.at_ T.h_Fill_eq.fn (bFlE FF) pass0) (rm (by decide)))
            (op_alt (op_eqB (X := (LwCx P w K mg base f (.ref c) A outer s H0 E pn)) (rcB_list (monB_ins PhR.ext) (eqB_ph T FP)) (rm (by decide))) (op_alt op_eq (op_eqB (X := (LwCx P w K mg base f (.ref c) A outer s H0 E pn)) (rcB_list monB_tr eqB_tr) (rm (by decide)))))))
          (pe_ix ix_list (pv 4) (pv 9) (fun _ _ => rfl)) (pe_ix ix_list (pv 3) (pv 9) (fun _ _ => rfl)) (nomark _)) (nomark _)))))
      (pss_one (ps_ret pe_bl)) pss_nil))), trivial⟩
end
end K09

set_option maxRecDepth 100000
set_option maxHeartbeats 4000000
namespace K09
open PySem PySem.Spec PyProof.Rows L2 He VH RZ
open LamX (Fx)
/-! the six turns -/
theorem bSr {K : PySem.W.Frag} {fd : FuncData} (F : FnSr K fd) : Binds K fd ["_law_well_here", "_law_parts_here"] [] := FunD.bindsN F fun _ _ _ _ _ _ us hl => match us, hl with | [_, _], _ => rfl
abbrev nmL : Str := ("law" ++ ".<locals>.") ++ "<lambda>"
abbrev nmR : Str := ("_law_spoilt_right" ++ ".<locals>.") ++ "<lambda>"
abbrev Tt9 (PL PR : Addr) : List (Addr × Str) := [(PL, nmL), (PR, nmR)]
theorem hm1 {PL PR : Addr} : (PL, nmL) ∈ Tt9 PL PR := List.mem_cons_self ..
theorem hm2 {PL PR : Addr} : (PR, nmR) ∈ Tt9 PL PR := List.mem_cons_of_mem _ (List.mem_cons_self ..)
theorem hu1 {PL PR : Addr} (ne : PL ≠ PR) : ∀ p ∈ Tt9 PL PR, p.1 = PL → p.2 = nmL := fun p hp e => by
  simp only [List.mem_cons, List.not_mem_nil, or_false] at hp
  rcases hp with rfl | rfl
  · rfl
  · exact absurd e.symm ne
theorem hu2 {PL PR : Addr} (ne : PL ≠ PR) : ∀ p ∈ Tt9 PL PR, p.1 = PR → p.2 = nmR := fun p hp e => by
  simp only [List.mem_cons, List.not_mem_nil, or_false] at hp
  rcases hp with rfl | rfl
  · exact absurd e ne
  · rfl
section
variable {P : Program} {w : World} {K : PySem.W.Frag} {mg : Str → Option Value} {base : Heap} {f c : Addr} {A : Around} {outer : List Env} {s : Shared} {H0 : Hp} {E : XK} {pn : List (Addr × Obj)} {fdR : FuncData}
/-- six turns, each right -/
theorem segS (T : Txt K mg w) {Tt : List (Addr × Str)} (FR : FnSr K fdR) (GR : FnOk P w K mg base CX0 11 (He.fAd K ("_law_spoilt_right", none)) fdR ["_law_well_here", "_law_parts_here"] (spSr K Tt)) (mR : mg "_law_spoilt_right" = some (.ref (He.fAd K ("_law_spoilt_right", none))))
    (hr : Room 12 (LwCx P w K mg base f (.ref c) A outer s H0 E pn).A) : ∃ t, PS (LwCx P w K mg base f (.ref c) A outer s H0 E pn) (outB.getD 15 (.Pass ⟨0, 0, 0, 0⟩)) t ∧
      ∀ (D : Ends) (sc p l la fa lp lw : Addr) (ws ps bs : List V) (d : Rd) (v1 v4 v5 v6 v7 v8 v9 v10 v11 v12 v13 v14 v15 v16 : Option V) (G : Hp), Well G p → LamX.Tabs Tt G → Pt K G p l la fa lp lw ws ps bs d →
        (∀ (v12 : Option V) (G' : Hp), Well G' p → LamX.Tabs Tt G' → Bx p G G' → D.nx [some (.ref sc), v1, some (.ref p), some (.ref l), v4, v5, v6, v7, v8, v9, v10, v11, v12, v13, v14, v15, v16] G') →
        t D [some (.ref sc), v1, some (.ref p), some (.ref l), v4, v5, v6, v7, v8, v9, v10, v11, v12, v13, v14, v15, v16] G := by
  have rm : ∀ {k : Nat}, k ≤ 12 → Room k (LwCx P w K mg base f (.ref c) A outer s H0 E pn).A := fun h => hr.mono h
  refine ⟨_, ps_for (X := LwCx P w K mg base f (.ref c) A outer s H0 E pn) PassesOwn.never rfl (pi_range1 (by rfl) T.g_range (pa_cons pe_int pa_nil)) (pg_name (i := 12) scLaw.nd rfl (Or.inl rfl))
    (pss_one (ps_if (pt_not (pt_val (pe_call GR (rm (by decide)) (by rfl) mR FR.kp (bSr FR) .nil pass0 (pa_cons (pv 2) (pa_cons (pv 3) pa_nil))))) (pss_one (ps_ret pe_bl)) pss_nil)), fun D sc p l la fa lp lw ws ps bs d v1 v4 v5 v6 v7 v8 v9 v10 v11 v12 v13 v14 v15 v16 G wl tb pt k => ?_⟩
  refine ⟨(6 : Int), rfl, by decide, by decide, ?_⟩
  refine for_range (lo := 0) (n := 6) (fun i σ G' => ∃ v12 : Option V, σ = [some (.ref sc), v1, some (.ref p), some (.ref l), v4, v5, v6, v7, v8, v9, v10, v11, v12, v13, v14, v15, v16] ∧ Well G' p ∧ LamX.Tabs Tt G' ∧ Bx p G G')
    ⟨_, rfl, wl, tb, Bx.same (Same.refl G)⟩ (fun i σ G1 li g => ?_) (fun σ G1 g => ?_)
  · obtain ⟨v12, rfl, w1, t1, x1⟩ := g
    refine ⟨_, rfl, _, rfl, p, l, la, fa, lp, lw, ws, ps, bs, d, rfl, w1, t1, pt.bx wl x1, fun G2 w2 t2 x2 => ⟨true, rfl, iteF ?_⟩⟩
    exact ⟨_, rfl, w2, t2, x1.trans x2⟩
  · obtain ⟨v12, rfl, w1, t1, x1⟩ := g
    exact k _ _ w1 t1 x1
end
end K09

set_option maxRecDepth 100000
set_option maxHeartbeats 4000000
namespace K09
open PySem PySem.Spec PyProof.Rows L2 He VH RZ
open LamX (Fx)
/-! what holds within a turn of the law's own loop -/
theorem Rd.uniq {d : Rd} {ws ps bs : List V} {fa : Addr} {ws' ps' bs' : List V} {fa' : Addr} {d' : Ro} (h : (d.bnt ws ps bs fa).Is ws' ps' bs' fa' d') : ws' = ws ∧ ps' = ps ∧ bs' = bs ∧ fa' = fa ∧ d' = d.ro := by
  obtain ⟨h1, h2, h3, h4, h5, h6⟩ := h
  obtain ⟨zs, ds, wk, hd, rs⟩ := d'
  have inj : ∀ {α : Type} {xs ys : List α}, xs.map some = ys.map some → xs = ys := fun e => (List.map_inj_right (fun x y q => Option.some.inj q)).mp e
  have a1 : ws = ws' := congrArg Prod.fst (Option.some.inj h1)
  have b1 : (d.ws.map (·.1)).map some = zs.map some := congrArg Prod.snd (Option.some.inj h1)
  have a2 : fa = fa' := Option.some.inj h2
  have a3 : ps = ps' := congrArg Prod.fst (Option.some.inj h3)
  have b3 : d.ds.map some = ds.map some := congrArg Prod.snd (Option.some.inj h3)
  have a4 : d.wk = wk := Option.some.inj h4
  have a5 : d.hd = hd := Option.some.inj h5
  have a6 : bs = bs' := congrArg Prod.fst (Option.some.inj h6)
  have b6 : d.rs.map some = rs.map some := congrArg Prod.snd (Option.some.inj h6)
  refine ⟨a1.symm, a3.symm, a6.symm, a2.symm, ?_⟩
  show Ro.mk zs ds wk hd rs = Ro.mk (d.ws.map (·.1)) d.ds d.wk d.hd d.rs
  rw [← inj b1, ← inj b3, ← inj b6, ← a4, ← a5]
theorem mk_ro {K : PySem.W.Frag} {H : Hp} {l fa : Addr} {x0 x1 x2 x3 x4 x5 : V} {ws ps bs : List V} {d : Rd} {Q : VK} {E : XK} (hl : H l = some (.lst [x0, x1, x2, x3, x4, x5])) (bt : BntAt K H x0 x1 x2 x3 x4 x5 (d.bnt ws ps bs fa)) (ok : d.ro.Ok)
    (w : Each (WrX K) H ws d.ws) (f : FlX K H (.ref fa) d.fl) (p : Each (PhX K) H ps d.ds) (b : Each (WyAt K) H bs d.rs) (k : ∀ (c : Addr) (H' : Hp), Same H H' → RoX K H' c ws ps bs fa d → Q (.ref c) H') : spMad K [.ref l] H Q E :=
  ⟨l, x0, x1, x2, x3, x4, x5, _, rfl, hl, bt, (fun u i e => by
    rw [(d.good (ws := ws) (ps := ps) (bs := bs) (fa := fa) ok w.1 p.1).bad] at e
    cases e), fun ws' ps' bs' fa' d' is _ c H' s ra => by
    obtain ⟨rfl, rfl, rfl, rfl, rfl⟩ := Rd.uniq is
    exact k c H' s ⟨ra, w.same fun _ _ h => h.same s, f.same s, p.same fun _ _ h => h.same s, b.same fun _ _ h => h.same s⟩⟩
/-- six parts and where they stand -/
structure Six where
  l : Addr
  la : Addr
  fa : Addr
  lp : Addr
  lw : Addr
  ws : List V
  ps : List V
  bs : List V
  d : Rd
def Six.At (K : PySem.W.Frag) (G : Hp) (p : Addr) (m : Six) : Prop := Pt K G p m.l m.la m.fa m.lp m.lw m.ws m.ps m.bs m.d
theorem Pt.bnt {K : PySem.W.Frag} {G : Hp} {p l la fa lp lw : Addr} {ws ps bs : List V} {d : Rd} (q : Pt K G p l la fa lp lw ws ps bs d) : BntAt K G (.ref la) (.ref fa) (.ref lp) (.int d.wk) (.int d.hd) (.ref lw) (d.bnt ws ps bs fa) := by
  refine ⟨⟨la, rfl, .inl (SqL.of q.ha), each_is q.w, ?_⟩, ?_, ⟨lp, rfl, .inl (SqL.of q.hp), each_ph q.p q.lw, ?_⟩, fun H' _ => .inl ⟨_, rfl, rfl⟩, fun H' _ => .inl ⟨_, rfl, rfl⟩, ⟨lw, rfl, .inl (SqL.of q.hw), each_wy q.b, by have := q.lb; omega⟩⟩
  · have := q.ok.z4
    have l1 := q.w.1
    have l2 : d.ro.zs.length = d.ws.length := List.length_map _
    omega
  · exact ⟨rfl, q.fk⟩
  · have : d.ds.length ≤ 6 := q.ok.p6
    have l1 := q.p.1
    omega
theorem sql_bx {K : PySem.W.Frag} {sc p : Addr} {H H' : Hp} {xs : List V} (h : SqL K H sc xs) (d : sc ≠ p ∨ ∀ G, SqL K G sc xs) (b : Bx p H H') : SqL K H' sc xs := by
  rcases d with d | d
  · rcases h with (h | ⟨o, h⟩) | h
    · exact .inl (.inl (b _ _ d h (fun _ z => by cases z)))
    · exact .inl (.inr ⟨o, b _ _ d h (fun _ z => by cases z)⟩)
    · exact .inr h
  · exact d _
theorem sql_ne {K : PySem.W.Frag} {sc p : Addr} {H : Hp} {xs : List V} (h : SqL K H sc xs) (n : H p = none) : sc ≠ p ∨ ∀ G, SqL K G sc xs := by
  rcases h with (h | ⟨o, h⟩) | h
  · exact .inl (ne_of_none h n)
  · exact .inl (ne_of_none h n)
  · exact .inr fun _ => .inr h
structure Tn (K : PySem.W.Frag) (Tt : List (Addr × Str)) (sc p : Addr) (xs : List V) (m n : Six) (r : Addr) (G : Hp) : Prop where
  sq : SqL K G sc xs
  dp : sc ≠ p ∨ ∀ G, SqL K G sc xs
  wl : Well G p
  tb : LamX.Tabs Tt G
  pm : m.At K G p
  pn : n.At K G p
  rx : RoX K G r m.ws m.ps m.bs m.fa m.d
section
variable {K : PySem.W.Frag} {Tt : List (Addr × Str)} {sc p r : Addr} {xs : List V} {m n : Six} {G G' : Hp}
theorem Tn.bx (M : Tn K Tt sc p xs m n r G) (x : Bx p G G') (w : Well G' p) (t : LamX.Tabs Tt G') : Tn K Tt sc p xs m n r G' :=
  ⟨sql_bx M.sq M.dp x, M.dp, w, t, Pt.bx M.pm M.wl x, Pt.bx M.pn M.wl x, M.rx.fx (x.fx M.wl)⟩
theorem Tn.same (M : Tn K Tt sc p xs m n r G) (s : Same G G') : Tn K Tt sc p xs m n r G' := M.bx (Bx.same s) (M.wl.same s) (M.tb.ext s)
theorem Tn.ext (M : Tn K Tt sc p xs m n r G) (s : LamX.ExtN G G') (t : LamX.Tabs Tt G') : Tn K Tt sc p xs m n r G' := M.bx (Bx.ext s) (M.wl.ext s) t
end
/-! a thing is the same as itself -/
theorem sameW_self {K : PySem.W.Frag} {H : Hp} {x : V} {d : Str × List Tr} (h : WrX K H x d) : sameW d d = true := by
  obtain ⟨_, _, _, _, _, nd⟩ := h
  unfold sameW
  rw [Tr.same_self (Tr.noD_of nd)]
  simp
theorem sameF_self {K : PySem.W.Frag} {H : Hp} {x : V} {d : Fl × Tr} (h : FlX K H x d) : sameF d d = true := by
  obtain ⟨_, _, _, _, _, _, nd⟩ := h
  unfold sameF
  rw [Tr.same_self (Tr.noD_of nd)]
  simp
theorem sameP_self {d : Ph} : sameP d d = true := by simp [sameP]
theorem sameY_self {d : Int × Int} : sameY d d = true := by simp [sameY]
theorem ansB_all {bs : List Bool} {n : Nat} (h : ∀ b ∈ bs, b = true) : ansB bs n n = true := by
  unfold ansB
  simp only [Bool.and_eq_true, List.all_eq_true, beq_self_eq_true, and_true]
  exact fun b hb => h b hb
theorem sameL_self {α : Type} {f : α → α → Bool} {xs : List α} (h : ∀ x ∈ xs, f x x = true) : sameL f xs xs = true := by
  unfold sameL
  refine ansB_all fun b hb => ?_
  obtain ⟨i, l, e⟩ := List.mem_iff_getElem.mp hb
  rw [List.getElem_zipWith] at e
  rw [← e]
  exact h _ (List.getElem_mem _)
theorem each_mem {α : Type} {P : Hp → V → α → Prop} {H : Hp} {xs : List V} {zs : List α} (h : Each P H xs zs) {z : α} (hz : z ∈ zs) : ∃ x ∈ xs, P H x z := by
  obtain ⟨i, l, e⟩ := List.mem_iff_getElem.mp hz
  have li : i < xs.length := by rw [h.1]; exact l
  obtain ⟨r, er, hr⟩ := h.2 i xs[i] (List.getElem?_eq_getElem li)
  rw [List.getElem?_eq_getElem l, e] at er
  cases er
  exact ⟨_, List.getElem_mem li, hr⟩
theorem sameLW {K : PySem.W.Frag} {H : Hp} {ws : List V} {ds : List (Str × List Tr)} (h : Each (WrX K) H ws ds) : sameL sameW ds ds = true := sameL_self fun x hx => by
  obtain ⟨_, _, hw⟩ := each_mem h hx
  exact sameW_self hw
theorem sameLP {ds : List Ph} : sameL sameP ds ds = true := sameL_self fun _ _ => sameP_self
theorem sameLY {ds : List (Int × Int)} : sameL sameY ds ds = true := sameL_self fun _ _ => sameY_self
theorem sameR_self {K : PySem.W.Frag} {H : Hp} {a fa : Addr} {ws ps bs : List V} {d : Rd} (h : RoX K H a ws ps bs fa d) : sameR d d = true := by
  unfold sameR
  rw [sameLW h.w, sameF_self h.f, sameLP, sameLY]
  simp
section
variable {K : PySem.W.Frag} {H : Hp} {xs ys : List V} {t u : Addr}
theorem bl_wr {ds es : List (Str × List Tr)} (h1 : H t = some (.lst xs)) (h2 : H u = some (.lst ys)) (h : Each (WrX K) H xs ds) (g : Each (WrX K) H ys es) : BList (BIns (ga K "Writer") (WrR K)) (.ref t) (.ref u) (sameL sameW ds es) H :=
  ⟨t, u, xs, ys, _, rfl, rfl, h1, h2, prs_of h g fun x y z u hz hu => by
    obtain ⟨a, nb, rfl, ⟨vs, ⟨dx, tt, k1, k2⟩, k3⟩, r1⟩ := id hz
    obtain ⟨c, nb', rfl, ⟨vs', ⟨dy, tt', l1, l2⟩, l3⟩, r2⟩ := id hu
    exact ⟨a, c, dx, dy, _, _, rfl, rfl, k1, l1, z, u, hz, hu, rfl⟩, by unfold sameL; rw [h.1, g.1]⟩
theorem bl_ph {ds es : List Ph} (h1 : H t = some (.lst xs)) (h2 : H u = some (.lst ys)) (h : Each (PhX K) H xs ds) (g : Each (PhX K) H ys es) : BList (BIns (ga K "Phase") (PhR K)) (.ref t) (.ref u) (sameL sameP ds es) H :=
  ⟨t, u, xs, ys, _, rfl, rfl, h1, h2, prs_of h g fun x y z u hz hu => by
    obtain ⟨a, rfl, ⟨dx, _, _, _, k1, _⟩⟩ := id hz
    obtain ⟨c, rfl, ⟨dy, _, _, _, l1, _⟩⟩ := id hu
    exact ⟨a, c, dx, dy, _, _, rfl, rfl, k1, l1, z, u, hz, hu, rfl⟩, by unfold sameL; rw [h.1, g.1]⟩
theorem bl_wy {ds es : List (Int × Int)} (h1 : H t = some (.lst xs)) (h2 : H u = some (.lst ys)) (h : Each (WyAt K) H xs ds) (g : Each (WyAt K) H ys es) : BList (BTr K) (.ref t) (.ref u) (sameL sameY ds es) H :=
  ⟨t, u, xs, ys, _, rfl, rfl, h1, h2, prs_of h g fun x y z u hz hu => ⟨wyT z, wyT u, hz.at, hu.at, wy_eq z u, Nat.le_of_ble_eq_true rfl⟩, by unfold sameL; rw [h.1, g.1]; rfl⟩
end
theorem FlX.ins {K : PySem.W.Frag} {H : Hp} {a : Addr} {d : Fl × Tr} (h : FlX K H (.ref a) d) : ∃ dx fs, H a = some (.ins (ga K "Fill") dx fs) := by
  obtain ⟨_, _, e, ⟨dx, h⟩, _⟩ := h
  cases e
  exact ⟨dx, _, h⟩
theorem bi_fl {K : PySem.W.Frag} {H : Hp} {a c : Addr} {d e : Fl × Tr} (h : FlX K H (.ref a) d) (g : FlX K H (.ref c) e) : BIns (ga K "Fill") (FlR K) (.ref a) (.ref c) (sameF d e) H := by
  obtain ⟨dx, fs, h1⟩ := h.ins
  obtain ⟨dy, gs, g1⟩ := g.ins
  exact ⟨a, c, dx, dy, fs, gs, rfl, rfl, h1, g1, d, e, h, g, rfl⟩
theorem bi_ro {K : PySem.W.Frag} {H : Hp} {a c fa fa' : Addr} {ws ps bs ws' ps' bs' : List V} {d e : Rd} (h : RoX K H a ws ps bs fa d) (g : RoX K H c ws' ps' bs' fa' e) : BIns (ga K "Rollout") (RoR K) (.ref a) (.ref c) (sameR d e) H := by
  obtain ⟨dx, _, _, _, h1, _⟩ := id h.r
  obtain ⟨dy, _, _, _, g1, _⟩ := id g.r
  exact ⟨a, c, dx, dy, _, _, rfl, rfl, h1, g1, ws, ps, bs, fa, d, ws', ps', bs', fa', e, h, g, rfl⟩
section
variable {X : Cx}
/-- a Fill != another one -/
theorem read_neF (T : Txt X.K X.mg X.w) {H : Hp} {a c : Addr} {d e : Fl × Tr} {Q : VK} (ha : FlX X.K H (.ref a) d) (hc : FlX X.K H (.ref c) e) (q : ∀ H', Same H H' → Q (.bl (!sameF d e)) H') : rNeA X.K (ga X.K "Fill") (spEqB (FlR X.K)) E0 X (.ref a) (.ref c) H Q := by
  obtain ⟨dx, fs, h1⟩ := ha.ins
  obtain ⟨_, p, e2, ⟨dy, h2⟩, _⟩ := id hc
  cases e2
  have ty : TyX X.K H (.ref c) (.ref (ga X.K "Fill")) := .base (.ins h2 T.c_Fill T.o_Fill.cls T.dc1 T.dc2 T.o_Fill.mro)
  refine ⟨a, _, rfl, .inr ⟨dx, _, h1⟩, ty, ?_, a, c, _, rfl, ⟨d, e, ha, hc, rfl⟩, fun H' s => ⟨_, rfl, q H' s⟩⟩
  unfold PySem.W.notFirst
  simp
/-- a Rollout != another one -/
theorem read_neR (T : Txt X.K X.mg X.w) {H : Hp} {a c fa fa' : Addr} {ws ps bs ws' ps' bs' : List V} {d e : Rd} {Q : VK} (ha : RoX X.K H a ws ps bs fa d) (hc : RoX X.K H c ws' ps' bs' fa' e) (q : ∀ H', Same H H' → Q (.bl (!sameR d e)) H') : rNeA X.K (ga X.K "Rollout") (spEqB (RoR X.K)) E0 X (.ref a) (.ref c) H Q := by
  obtain ⟨dx, _, _, _, h1, _⟩ := id ha.r
  have ty := RoAt.ty T hc.r
  refine ⟨a, _, rfl, .inr ⟨dx, _, h1⟩, ty, ?_, a, c, _, rfl, ⟨ws, ps, bs, fa, d, ws', ps', bs', fa', e, ha, hc, rfl⟩, fun H' s => ⟨_, rfl, q H' s⟩⟩
  unfold PySem.W.notFirst
  simp
end
end K09

set_option maxRecDepth 100000
set_option maxHeartbeats 4000000
namespace K09
open PySem PySem.Spec PyProof.Rows L2 He VH RZ
open LamX (Fx)
/-! six parts with one of another's -/
def Six.vals (m : Six) : List V := [.ref m.la, .ref m.fa, .ref m.lp, .int m.d.wk, .int m.d.hd, .ref m.lw]
def Six.val (n : Six) : Nat → V
  | 0 => .ref n.la
  | 1 => .ref n.fa
  | 2 => .ref n.lp
  | 3 => .int n.d.wk
  | 4 => .int n.d.hd
  | _ => .ref n.lw
def Six.mix (m n : Six) : Nat → Six
  | 0 => { m with la := n.la, ws := n.ws, d := { m.d with ws := n.d.ws } }
  | 1 => { m with fa := n.fa, d := { m.d with fl := n.d.fl } }
  | 2 => { m with lp := n.lp, ps := n.ps, d := { m.d with ds := n.d.ds } }
  | 3 => { m with d := { m.d with wk := n.d.wk } }
  | 4 => { m with d := { m.d with hd := n.d.hd } }
  | _ => { m with lw := n.lw, bs := n.bs, d := { m.d with rs := n.d.rs } }
def bitM (m n : Six) : Nat → Bool
  | 0 => sameL sameW n.d.ws m.d.ws
  | 1 => sameF n.d.fl m.d.fl
  | 2 => sameL sameP n.d.ds m.d.ds
  | 3 => decide (n.d.wk = m.d.wk)
  | 4 => decide (n.d.hd = m.d.hd)
  | _ => sameL sameY n.d.rs m.d.rs
theorem six_cases {i : Nat} (h : i < 6) : i = 0 ∨ i = 1 ∨ i = 2 ∨ i = 3 ∨ i = 4 ∨ i = 5 := by omega
theorem Six.get (n : Six) {i : Nat} (h : i < 6) : n.vals[i]? = some (n.val i) := by
  rcases six_cases h with rfl | rfl | rfl | rfl | rfl | rfl <;> rfl
theorem Six.vals_mix (m n : Six) {i : Nat} (h : i < 6) : m.vals.take i ++ [n.val i] ++ m.vals.drop (i + 1) = (m.mix n i).vals := by
  rcases six_cases h with rfl | rfl | rfl | rfl | rfl | rfl <;> rfl
/-- the parts of a list of six -/
structure Six.Is (K : PySem.W.Frag) (G : Hp) (m : Six) : Prop where
  bt : BntAt K G (.ref m.la) (.ref m.fa) (.ref m.lp) (.int m.d.wk) (.int m.d.hd) (.ref m.lw) (m.d.bnt m.ws m.ps m.bs m.fa)
  w : Each (WrX K) G m.ws m.d.ws
  f : FlX K G (.ref m.fa) m.d.fl
  p : Each (PhX K) G m.ps m.d.ds
  b : Each (WyAt K) G m.bs m.d.rs
theorem Six.At.is {K : PySem.W.Frag} {G : Hp} {p : Addr} {m : Six} (h : m.At K G p) : m.Is K G := ⟨Pt.bnt h, h.w, h.f, h.p, h.b⟩
theorem Six.Is.mix {K : PySem.W.Frag} {G : Hp} {m n : Six} (M : m.Is K G) (N : n.Is K G) {i : Nat} (h : i < 6) : (m.mix n i).Is K G := by
  obtain ⟨⟨a1, a2, a3, a4, a5, a6⟩, a7, a8, a9, a10⟩ := M
  obtain ⟨⟨b1, b2, b3, b4, b5, b6⟩, b7, b8, b9, b10⟩ := N
  rcases six_cases h with rfl | rfl | rfl | rfl | rfl | rfl
  · exact ⟨⟨b1, a2, a3, a4, a5, a6⟩, b7, a8, a9, a10⟩
  · exact ⟨⟨a1, b2, a3, a4, a5, a6⟩, a7, b8, a9, a10⟩
  · exact ⟨⟨a1, a2, b3, a4, a5, a6⟩, a7, a8, b9, a10⟩
  · exact ⟨⟨a1, a2, a3, b4, a5, a6⟩, a7, a8, a9, a10⟩
  · exact ⟨⟨a1, a2, a3, a4, b5, a6⟩, a7, a8, a9, a10⟩
  · exact ⟨⟨a1, a2, a3, a4, a5, b6⟩, a7, a8, a9, b10⟩
theorem same_mix {K : PySem.W.Frag} {G : Hp} {m n : Six} (M : m.Is K G) {i : Nat} (h : i < 6) : sameR (m.mix n i).d m.d = bitM m n i := by
  have e1 := sameLW M.w
  have e2 := sameF_self M.f
  have e3 : sameL sameP m.d.ds m.d.ds = true := sameLP
  have e4 : sameL sameY m.d.rs m.d.rs = true := sameLY
  rcases six_cases h with rfl | rfl | rfl | rfl | rfl | rfl <;> simp only [sameR, Six.mix, bitM, e1, e2, e3, e4, decide_true, Bool.true_and, Bool.and_true]
theorem tg_name {u v : Str} {e : Option Int} {r : Option (Str × Int)} {i : Int} (h : tg u e r = some (v, i)) : v = u ∨ r = some (v, i) := by
  cases e with
  | none => exact .inr h
  | some j => cases h; exact .inl rfl
theorem bad_told {t : Bnt} {u : Str} {i : Int} (h : t.bad = some (u, i)) : u ≠ "told" := by
  rw [bad_chain] at h
  rcases tg_name h with rfl | h
  · decide
  rcases tg_name h with rfl | h
  · decide
  rcases tg_name h with rfl | h
  · decide
  rcases tg_name h with rfl | h
  · decide
  rcases tg_name h with rfl | h
  · decide
  rcases tg_name h with rfl | h
  · decide
  cases h
end K09

set_option maxRecDepth 100000
set_option maxHeartbeats 4000000
namespace K09
open PySem PySem.Spec PyProof.Rows L2 He VH RZ
open LamX (Fx)
theorem bWell {K : PySem.W.Frag} {f : Addr} {fd : FuncData} (F : FnP K "_law_well" sWell f fd) : Binds K fd ["_law_script", "_law_at"] [] := FunD.bindsN F fun _ _ _ _ _ _ us hl => match us, hl with | [_, _], _ => rfl
section
variable {P : Program} {w : World} {K : PySem.W.Frag} {mg : Str → Option Value} {base : Heap} {f c : Addr} {A : Around} {outer : List Env} {s : Shared} {H0 : Hp} {E : XK} {pn : List (Addr × Obj)} {u : TS}
/-- the well, the parts, the Rollout made of them -/
theorem seg0 (T : Txt K mg w) (fns : Fns K) {Tt : List (Addr × Str)} (hr : Room 12 (LwCx P w K mg base f (.ref c) A outer s H0 E pn).A) (pu : PSs (LwCx P w K mg base f (.ref c) A outer s H0 E pn) (outB.drop 3) u) : ∃ t, PSs (LwCx P w K mg base f (.ref c) A outer s H0 E pn) outB t ∧
    ∀ (D : Ends) (sc : Addr) (ns : List Int) (k : Nat) (v2 v3 v4 v5 v6 v7 v8 v9 v10 v11 v12 v13 v14 v15 v16 : Option V) (G : Hp), SqL K G sc (ns.map V.int) → ns.length ≤ 63 → k ≤ 63 → LamX.Tabs Tt G →
      (∀ (p r : Addr) (m n : Six) (G' : Hp), Tn K Tt sc p (ns.map V.int) m n r G' → u D [some (.ref sc), some (.int (k : Int)), some (.ref p), some (.ref m.l), some (.ref n.l), some (.ref r), v6, v7, v8, v9, v10, v11, v12, v13, v14, v15, v16] G') →
      t D [some (.ref sc), some (.int (k : Int)), v2, v3, v4, v5, v6, v7, v8, v9, v10, v11, v12, v13, v14, v15, v16] G := by
  obtain ⟨fdM, FM⟩ := fns.f_l_made
  obtain ⟨fdS, FS⟩ := fns.f_l_parts
  obtain ⟨fdW0, FW0⟩ := fns.f_l_well
  have GW : FnOk P w K mg base CX0 1 (ga K "_law_well") fdW0 ["_law_script", "_law_at"] (spWell K) := ok_well FW0 T.g_int
  have GM : FnOk P w K mg base (L2.CX P w) 7 (ga K "_law_made") fdM ["_law_parts_here"] (spMad K) := ok_mad FM T fns
  have GS : FnOk P w K mg base (L2.CX P w) 11 (ga K "_law_parts") fdS ["_law_well_here"] (spSix K) := ok_six FS T fns
  have rm : ∀ {k : Nat}, k ≤ 12 → Room k (LwCx P w K mg base f (.ref c) A outer s H0 E pn).A := fun h => hr.mono h
  refine ⟨_, pss_cons (ps_set (X := (LwCx P w K mg base f (.ref c) A outer s H0 E pn)) (i := 2) scLaw.nd rfl (Or.inl rfl) (pe_call GW (rm (by decide)) (by rfl) T.m_l_well FW0.kp (bWell FW0) .nil pass0 (pa_cons (pv 0) (pa_cons (pv 1) pa_nil))))
    (pss_cons (ps_asg (pe_tup (pa_cons (pe_call GS (rm (by decide)) (by rfl) T.m_l_parts FS.kp (bSix FS) .nil passN (pa_cons (pv 2) pa_nil)) (pa_cons (pe_call GS (rm (by decide)) (by rfl) T.m_l_parts FS.kp (bSix FS) .nil passN (pa_cons (pv 2) pa_nil)) pa_nil))) (pg_tup (by rfl) (pgs_cons (pg_name (i := 3) scLaw.nd rfl (Or.inr rfl)) (pgs_cons (pg_name (i := 4) scLaw.nd rfl (Or.inl rfl)) pgs_nil))))
    (pss_cons (ps_set (i := 5) scLaw.nd rfl (Or.inl rfl) (pe_call GM (rm (by decide)) (by rfl) T.m_l_made FM.kp (bMad FM) .nil passN (pa_cons (pv 3) pa_nil))) pu)), fun D sc ns k v2 v3 v4 v5 v6 v7 v8 v9 v10 v11 v12 v13 v14 v15 v16 G ha few lk tb kk => ?_⟩
  refine ⟨_, rfl, _, rfl, sc, ns, k, rfl, ha, few, lk, fun H1 p np wp S1 => ?_⟩
  have ha1 := sqL_same' S1 ha
  have dp := sql_ne ha np
  have tb1 := tb.ext S1
  refine ⟨_, rfl, p, rfl, wp, fun l la fa lp lw ws ps bs d H2 w2 b2 pt => ?_⟩
  refine ⟨_, rfl, p, rfl, w2, fun l2 la2 fa2 lp2 lw2 ws2 ps2 bs2 d2 H3 w3 b3 pt3 => ⟨(show 2 ≤ sizeLine by decide), fun t nt => ?_⟩⟩
  have pt2 := pt.bx w2 (Bx.but b3)
  have St := Same.new (o := .tup [.ref l, .ref l2]) nt
  have ht := upd_same (H := H3) (a := t) (o := .tup [.ref l, .ref l2])
  have ha3 := sql_bx (sql_bx ha1 dp (Bx.but b2)) dp (Bx.but b3)
  have tb3 := tabs_but (tabs_but tb1 wp b2) w2 b3
  refine ⟨t, _, rfl, SqT.of ht, rfl, _, _, rfl, _, _, rfl, rfl, ?_⟩
  generalize upd H3 t (.tup [.ref l, .ref l2]) = H4 at St ht ⊢
  have q1 := pt2.bx w3 (Bx.same St)
  have q2 := pt3.bx w3 (Bx.same St)
  refine ⟨_, rfl, ?_⟩
  dsimp only [tNil]
  refine mk_ro q1.hl q1.bnt q1.ok q1.w q1.f q1.p q1.b fun r H5 S5 rx => ?_
  exact kk p r ⟨l, la, fa, lp, lw, ws, ps, bs, d⟩ ⟨l2, la2, fa2, lp2, lw2, ws2, ps2, bs2, d2⟩ H5 ⟨sqL_same' S5 (sqL_same' St ha3), dp, (w3.same St).same S5, (tb3.ext St).ext S5, q1.bx (w3.same St) (Bx.same S5), q2.bx (w3.same St) (Bx.same S5), rx⟩
end
end K09

set_option maxRecDepth 100000
set_option maxHeartbeats 4000000
namespace K09
open PySem PySem.Spec PyProof.Rows L2 He VH RZ
open LamX (Fx)
theorem blkIn {sc : Scope} (h : sc.names.lookup ("_law_word" : Str) = some .cell) : BlkOk nLaw sc (Scope.mk .function [(".0", .local), ("_law_one_here", .local), ("_law_word", .free)] false false []) [("_law_one_here", 15)] :=
  ⟨rfl, by decide +kernel, by decide +kernel, fun y hy e => by
    simp only [List.mem_cons, List.not_mem_nil, or_false] at hy
    rcases hy with rfl | rfl | rfl
    · cases e
    · cases e
    · exact .inl h, by decide +kernel⟩
theorem has_len (d : Rd) (z : Str) : decide ((0 : Int) < ((d.ds.filter fun e => e.ps.contains z).length : Nat)) = d.ro.has z := by
  show _ = d.ds.any fun p => p.ps.contains z
  rw [Bool.eq_iff_iff, decide_eq_true_iff, List.any_eq_true]
  constructor
  · intro h
    obtain ⟨x, hx⟩ := List.exists_mem_of_length_pos (show 0 < (d.ds.filter fun e => e.ps.contains z).length by omega)
    exact ⟨x, (List.mem_filter.mp hx).1, (List.mem_filter.mp hx).2⟩
  · rintro ⟨x, hx, e⟩
    have := List.length_pos_of_mem (List.mem_filter.mpr ⟨hx, e⟩ : x ∈ d.ds.filter fun e => e.ps.contains z)
    omega
section
variable {P : Program} {w : World} {K : PySem.W.Frag} {mg : Str → Option Value} {base : Heap} {f c Pq : Addr} {A : Around} {outer : List Env} {s : Shared} {H0 : Hp} {E : XK} {pn : List (Addr × Obj)}
/-- what is wanted of the promises -/
theorem seg3 (T : Txt K mg w) (fns : Fns K) {Tt : List (Addr × Str)} (hr : Room 12 (LwCx P w K mg base f (.ref c) A outer s H0 E pn).A) : ∃ t, PS (LwCx P w K mg base f (.ref c) A outer s H0 E pn) (outB.getD 3 (.Pass ⟨0, 0, 0, 0⟩)) t ∧
    ∀ (D : Ends) (sc p r : Addr) (xs : List V) (m n : Six) (v1 v6 v7 v8 v9 v10 v11 v12 v13 v14 v15 v16 : Option V) (G : Hp), Tn K Tt sc p xs m n r G →
      (∀ (a6 : Addr) (v15 v16 : Option V) (G' : Hp), Tn K Tt sc p xs m n r G' → G' a6 = some (.lst [.bl (m.d.ro.has "once"), .bl (m.d.ro.has "kept")]) → D.nx [some (.ref sc), v1, some (.ref p), some (.ref m.l), some (.ref n.l), some (.ref r), some (.ref a6), v7, v8, v9, v10, v11, v12, v13, v14, v15, v16] G') →
      t D [some (.ref sc), v1, some (.ref p), some (.ref m.l), some (.ref n.l), some (.ref r), v6, v7, v8, v9, v10, v11, v12, v13, v14, v15, v16] G := by
  refine ⟨_, ps_setLc (X := (LwCx P w K mg base f (.ref c) A outer s H0 E pn)) (i := 6) (own := [("_law_word", 16)]) (g := gName 16) (tt := tYes) (te := (tOp (rI0 fun i j => V.bl (decide (j < i))) (tCB (fun xs H Q => ∃ p ys, xs = [V.ref p] ∧ (SqL K H p ys ∨ SqT K H p ys) ∧ Q (V.int (ys.length : Nat)) H) (tCons (tLc (iList K (tOp (rIxL K) (tVar 3) (tC (.int 2)))) (gName 15) (tTest (tOp (rIn K false) (tVar 16) (tFld K (tVar 15) "promises"))) (tC (.int 1)) [15]) tNil)) (tC (.int 0)))) rfl scLaw.nd rfl rfl (sw_true rfl rfl rfl (by decide +kernel)) (pi_list (pe_lst (pa_cons pe_str (pa_cons pe_str pa_nil)))) (blkOk_by (N := nLaw) (sc := defScope sLaw) (by decide +kernel))
      (fun _ _ _ _ _ => pg_name (i := 16) scLaw.nd rfl (Or.inr rfl)) (fun _ _ _ _ _ => pts_nil) (fun _ _ _ _ _ => pe_cmpR op_gt (pe_callB call_len_seq (by rfl) T.g_len boot_len (pa_cons (pe_lc (own := [("_law_one_here", 15)]) (g := gName 15) (tt := tTest (tOp (rIn K false) (tVar 16) (tFld K (tVar 15) "promises"))) (te := tC (.int 1)) rfl scLaw.nd (pi_list (pe_ix ix_list (pv 3) pe_int (fun _ _ => rfl))) (blkIn rfl)
        (fun _ _ _ _ _ => pg_name (i := 15) scLaw.nd rfl (Or.inl rfl)) (fun _ _ _ _ _ => pts_one (pt_cmpR op_in_seq (pv 16) (pe_fld (pv 15) (by rfl)) (by rfl))) (fun _ _ _ _ _ => pe_int)) pa_nil)) pe_int (nomark _)), fun D sc p r xs m n v1 v6 v7 v8 v9 v10 v11 v12 v13 v14 v15 v16 G M k => ?_⟩
  have big : 1000 < sizeLine := by decide
  refine ⟨(show 2 ≤ sizeLine by decide), fun L nL => ⟨L, rfl, ⟨_, SqL.of upd_same⟩, fun D6 nD => ?_⟩⟩
  have SL := Same.new (o := .lst [.str "once", .str "kept"]) nL
  have hL := upd_same (H := G) (a := L) (o := .lst [.str "once", .str "kept"])
  have M1 := M.same SL
  clear M
  generalize upd G L (.lst [.str "once", .str "kept"]) = G1 at SL hL M1 nD ⊢
  refine lc_list (K := K) (xs := [.str "once", .str "kept"]) (fun i G' => Same G1 G' ∧ G' D6 = some (.lst (([m.d.ro.has "once", m.d.ro.has "kept"].take i).map V.bl))) ⟨Same.new nD, upd_same⟩ (fun i G' _ q => SqL.of (q.1 _ _ hL)) (fun i x G2 hx q => ?_) (fun G2 q => ?_)
  · obtain ⟨s2, hD⟩ := q
    have M2 := M1.same s2
    obtain ⟨z, rfl, ez⟩ : ∃ z, x = .str z ∧ [m.d.ro.has "once", m.d.ro.has "kept"][i]? = some (m.d.ro.has z) := match i, hx with
      | 0, hx => by cases hx; exact ⟨_, rfl, rfl⟩
      | 1, hx => by cases hx; exact ⟨_, rfl, rfl⟩
    have pm := M2.pm
    have p6 : m.d.ds.length ≤ 6 := pm.ok.p6
    have ll := pm.p.1
    refine ⟨rfl, ?_⟩
    refine ⟨_, rfl, m.l, _, 2, _, rfl, rfl, SqL.of pm.hl, rfl, m.lp, rfl, ⟨_, SqL.of pm.hp⟩, fun D2 nD2 => ?_⟩
    refine lc_list (K := K) (xs := m.ps) (fun j G' => Same G2 G' ∧ G' D2 = some (.lst (List.replicate ((m.d.ds.take j).filter fun e => e.ps.contains z).length (V.int 1)))) ⟨Same.new nD2, upd_same⟩ (fun j G' _ q => SqL.of (q.1 _ _ pm.hp)) (fun j x G3 hx q => ?_) (fun G3 q => ?_)
    · obtain ⟨s3, hD2⟩ := q
      obtain ⟨d, ed, hd⟩ := (M2.same s3).pm.p.2 j x hx
      obtain ⟨pa, rfl, dx, t1, t2, t3, hp, _, a2, _⟩ := hd
      have tk : (m.d.ds.take (j + 1)) = m.d.ds.take j ++ [d] := by rw [List.take_succ, ed]; rfl
      refine ⟨rfl, _, rfl, _, rfl, pa, _, dx, _, _, rfl, hp, T.c_Phase, T.n_Phase_promises, rfl, t2, _, rfl, .inr a2, rfl, flat_strs, ?_⟩
      rw [in_strs]
      have le := (List.take_sublist j m.d.ds).length_le
      have lf := List.length_filter_le (fun e : Ph => e.ps.contains z) (m.d.ds.take j)
      cases e0 : d.ps.contains z with
      | true =>
        refine ⟨true, rfl, iteT ⟨_, hD2, ?_, same_put s3 nD2, ?_⟩⟩
        · rw [List.length_replicate]
          omega
        · rw [upd_same, tk, List.filter_append, List.length_append, List.filter_cons_of_pos (p := fun e : Ph => e.ps.contains z) e0]
          show some (HO.lst (List.replicate _ (V.int 1) ++ [V.int 1])) = some (HO.lst (List.replicate (_ + 1) (V.int 1)))
          rw [← List.replicate_succ']
      | false =>
        refine ⟨false, rfl, iteF ⟨s3, ?_⟩⟩
        rw [tk, List.filter_append, List.filter_cons_of_neg (p := fun e : Ph => e.ps.contains z) (by rw [e0]; exact Bool.false_ne_true), List.filter_nil, List.append_nil]
        exact hD2
    · obtain ⟨s3, hD2⟩ := q
      rw [List.take_of_length_le (by omega)] at hD2
      refine ⟨D2, _, rfl, .inl (SqL.of hD2), _, _, rfl, rfl, ?_⟩
      dsimp only
      rw [List.length_replicate, has_len]
      refine ⟨_, s3 _ _ hD, ?_, same_put (s2.trans s3) nD, ?_⟩
      · rw [List.length_map, List.length_take]
        simp only [List.length_cons, List.length_nil]
        omega
      · rw [upd_same, List.take_succ, ez, List.map_append]
        rfl
  · obtain ⟨s2, hD⟩ := q
    exact k D6 _ _ _ (M1.same s2) hD
end
end K09

set_option maxRecDepth 100000
set_option maxHeartbeats 4000000
namespace K09
open PySem PySem.Spec PyProof.Rows L2 He VH RZ
open LamX (Fx)
theorem eqV_bl {b : Bool} : eqV (.bl b) (.bl b) = true := by simp [eqV]
section
variable {P : Program} {w : World} {K : PySem.W.Frag} {mg : Str → Option Value} {base : Heap} {f c Pq : Addr} {A : Around} {outer : List Env} {s : Shared} {H0 : Hp} {E : XK} {pn : List (Addr × Obj)}
/-- counts, keeps, len -/
theorem seg4 (T : Txt K mg w) (fns : Fns K) {Tt : List (Addr × Str)} (hr : Room 12 (LwCx P w K mg base f (.ref c) A outer s H0 E pn).A) : ∃ t, PS (LwCx P w K mg base f (.ref c) A outer s H0 E pn) (outB.getD 4 (.Pass ⟨0, 0, 0, 0⟩)) t ∧
    ∀ (D : Ends) (sc p r : Addr) (a6 : Addr) (xs : List V) (m n : Six) (v1 v6 v7 v8 v9 v10 v11 v12 v13 v14 v15 v16 : Option V) (G : Hp), Tn K Tt sc p xs m n r G →
      G a6 = some (.lst [.bl (m.d.ro.has "once"), .bl (m.d.ro.has "kept")]) → (∀ G' : Hp, Tn K Tt sc p xs m n r G' → D.nx [some (.ref sc), v1, some (.ref p), some (.ref m.l), some (.ref n.l), some (.ref r), some (.ref a6), v7, v8, v9, v10, v11, v12, v13, v14, v15, v16] G') →
      t D [some (.ref sc), v1, some (.ref p), some (.ref m.l), some (.ref n.l), some (.ref r), some (.ref a6), v7, v8, v9, v10, v11, v12, v13, v14, v15, v16] G := by
  obtain ⟨fdM, FM⟩ := fns.f_l_made
  obtain ⟨fdE, FE⟩ := fns.f_Rollout_eq
  obtain ⟨fdF, FF⟩ := fns.f_Fill_eq
  obtain ⟨fdW, FW⟩ := fns.f_Writer_eq
  obtain ⟨fdP, FP⟩ := fns.f_Phase_eq
  obtain ⟨fdL, FL⟩ := fns.f_Rollout_len
  have GM : FnOk P w K mg base (L2.CX P w) 7 (ga K "_law_made") fdM ["_law_parts_here"] (spMad K) := ok_mad FM T fns
  have GE := raw0 (ok_roE (P := P) (w := w) (base := base) FE T FF FW FP) (bRoE FE)
  have GF := raw0 (ok_flE (P := P) (w := w) (base := base) FF T) (bFlE FF)
  have rm : ∀ {k : Nat}, k ≤ 12 → Room k (LwCx P w K mg base f (.ref c) A outer s H0 E pn).A := fun h => hr.mono h
  refine ⟨_, ps_if (pt_cmpR (op_neB (X := (LwCx P w K mg base f (.ref c) A outer s H0 E pn)) (rnB_list monB_flat eqB_flat) (rm (by decide))) (pe_lst (pa_cons (pe_fld (pv 5) (by rfl)) (pa_cons (pe_fld (pv 5) (by rfl)) (pa_cons (pe_callB (call_lenR (X := (LwCx P w K mg base f (.ref c) A outer s H0 E pn)) T FL (rm (by decide))) (by rfl) T.g_len boot_len (pa_cons (pv 5) pa_nil)) pa_nil)))) (pe_op op_catR (pv 6) (pe_lst (pa_cons (pe_callB call_len_seq (by rfl) T.g_len boot_len (pa_cons (pe_ix ix_list (pv 3) pe_int (fun _ _ => rfl)) pa_nil)) pa_nil))) (nomark _)) (pss_one (ps_ret pe_bl)) pss_nil, fun D sc p r a6 xs m n v1 v6 v7 v8 v9 v10 v11 v12 v13 v14 v15 v16 G M h6 k => ?_⟩
  obtain ⟨dx, t1, t2, t3, h0, a1, a2, a3⟩ := id M.rx.r
  have p6 : m.d.ds.length ≤ 6 := M.pm.ok.p6
  have ll := M.pm.p.1
  refine ⟨_, rfl, r, _, dx, _, _, rfl, h0, T.c_Rollout, T.n_Rollout_counts, rfl, _, rfl, r, _, dx, _, _, rfl, h0, T.c_Rollout, T.n_Rollout_keeps, rfl, _, rfl, ?_⟩
  dsimp only [tNil]
  refine read_lenR (X := (LwCx P w K mg base f (.ref c) A outer s H0 E pn)) M.rx.r (by omega) ?_
  have pm := M.pm
  refine ⟨(show 3 ≤ sizeLine by decide), fun a na => ?_⟩
  have Z1 := Same.new (o := .lst [.bl (m.d.ro.has "once"), .bl (m.d.ro.has "kept"), .int (m.ps.length : Nat)]) na
  have ha := upd_same (H := G) (a := a) (o := .lst [.bl (m.d.ro.has "once"), .bl (m.d.ro.has "kept"), .int (m.ps.length : Nat)])
  generalize upd G a (.lst [.bl (m.d.ro.has "once"), .bl (m.d.ro.has "kept"), .int (m.ps.length : Nat)]) = G1 at Z1 ha ⊢
  refine ⟨_, rfl, _, rfl, m.l, _, 2, _, rfl, rfl, SqL.of (Z1 _ _ pm.hl), rfl, m.lp, m.ps, rfl, .inl (SqL.of (Z1 _ _ pm.hp)), (show 1 ≤ sizeLine by decide), fun b nb => ?_⟩
  have Z2 := Same.new (o := .lst [.int (m.ps.length : Nat)]) nb
  have hb := upd_same (H := G1) (a := b) (o := .lst [.int (m.ps.length : Nat)])
  generalize upd G1 b (.lst [.int (m.ps.length : Nat)]) = G2 at Z2 hb ⊢
  refine ⟨a6, b, _, _, rfl, rfl, SqL.of (Z2 _ _ (Z1 _ _ h6)), SqL.of hb, (show 3 ≤ sizeLine by decide), fun e ne => ?_⟩
  have Z3 := Same.new (o := .lst [.bl (m.d.ro.has "once"), .bl (m.d.ro.has "kept"), .int (m.ps.length : Nat)]) ne
  have ZZ := (Z1.trans Z2).trans Z3
  have he := upd_same (H := G2) (a := e) (o := .lst [.bl (m.d.ro.has "once"), .bl (m.d.ro.has "kept"), .int (m.ps.length : Nat)])
  refine ⟨true, ⟨a, e, _, _, [true, true, true], rfl, rfl, Z3 _ _ (Z2 _ _ ha), he, .cons ⟨rfl, rfl, eqV_bl⟩ (.cons ⟨rfl, rfl, eqV_bl⟩ (.cons ⟨rfl, rfl, eqV_int⟩ .nil)), rfl⟩, fun G' S' => ⟨_, rfl, iteF ?_⟩⟩
  exact k G' (M.same (ZZ.trans S'))
/-- workers, hands -/
theorem seg5 (T : Txt K mg w) (fns : Fns K) {Tt : List (Addr × Str)} (hr : Room 12 (LwCx P w K mg base f (.ref c) A outer s H0 E pn).A) : ∃ t, PS (LwCx P w K mg base f (.ref c) A outer s H0 E pn) (outB.getD 5 (.Pass ⟨0, 0, 0, 0⟩)) t ∧
    ∀ (D : Ends) (sc p r : Addr) (xs : List V) (m n : Six) (v1 v6 v7 v8 v9 v10 v11 v12 v13 v14 v15 v16 : Option V) (G : Hp), Tn K Tt sc p xs m n r G →
      (∀ G' : Hp, Tn K Tt sc p xs m n r G' → D.nx [some (.ref sc), v1, some (.ref p), some (.ref m.l), some (.ref n.l), some (.ref r), v6, v7, v8, v9, v10, v11, v12, v13, v14, v15, v16] G') →
      t D [some (.ref sc), v1, some (.ref p), some (.ref m.l), some (.ref n.l), some (.ref r), v6, v7, v8, v9, v10, v11, v12, v13, v14, v15, v16] G := by
  obtain ⟨fdM, FM⟩ := fns.f_l_made
  obtain ⟨fdE, FE⟩ := fns.f_Rollout_eq
  obtain ⟨fdF, FF⟩ := fns.f_Fill_eq
  obtain ⟨fdW, FW⟩ := fns.f_Writer_eq
  obtain ⟨fdP, FP⟩ := fns.f_Phase_eq
  obtain ⟨fdL, FL⟩ := fns.f_Rollout_len
  have GM : FnOk P w K mg base (L2.CX P w) 7 (ga K "_law_made") fdM ["_law_parts_here"] (spMad K) := ok_mad FM T fns
  have GE := raw0 (ok_roE (P := P) (w := w) (base := base) FE T FF FW FP) (bRoE FE)
  have GF := raw0 (ok_flE (P := P) (w := w) (base := base) FF T) (bFlE FF)
  have rm : ∀ {k : Nat}, k ≤ 12 → Room k (LwCx P w K mg base f (.ref c) A outer s H0 E pn).A := fun h => hr.mono h
  refine ⟨_, ps_if (pt_cmpR (op_neB (X := (LwCx P w K mg base f (.ref c) A outer s H0 E pn)) (rnB_list monB_flat eqB_flat) (rm (by decide))) (pe_lst (pa_cons (pe_fld (pv 5) (by rfl)) (pa_cons (pe_fld (pv 5) (by rfl)) pa_nil))) (pe_slice sl_list (pv 3) (po_some pe_int) (po_some pe_int)) (nomark _)) (pss_one (ps_ret pe_bl)) pss_nil, fun D sc p r xs m n v1 v6 v7 v8 v9 v10 v11 v12 v13 v14 v15 v16 G M k => ?_⟩
  obtain ⟨dx, t1, t2, t3, h0, a1, a2, a3⟩ := id M.rx.r
  have p6 : m.d.ds.length ≤ 6 := M.pm.ok.p6
  have ll := M.pm.p.1
  refine ⟨_, rfl, r, _, dx, _, _, rfl, h0, T.c_Rollout, T.n_Rollout_workers, rfl, _, rfl, r, _, dx, _, _, rfl, h0, T.c_Rollout, T.n_Rollout_hands, rfl, (show 2 ≤ sizeLine by decide), fun a na => ?_⟩
  have pm := M.pm
  have Z1 := Same.new (o := .lst [.int m.d.wk, .int m.d.hd]) na
  have ha := upd_same (H := G) (a := a) (o := .lst [.int m.d.wk, .int m.d.hd])
  have e0 : upd G a (.lst [.int m.d.ro.wk, .int m.d.ro.hd]) = upd G a (.lst [.int m.d.wk, .int m.d.hd]) := rfl
  rw [e0]
  generalize upd G a (.lst [.int m.d.wk, .int m.d.hd]) = G1 at Z1 ha ⊢
  refine ⟨_, rfl, _, rfl, _, rfl, m.l, _, rfl, SqL.of (Z1 _ _ pm.hl), fun e ne => ?_⟩
  have Z2 := Same.new (o := .lst [.int m.d.wk, .int m.d.hd]) ne
  have he := upd_same (H := G1) (a := e) (o := .lst [.int m.d.wk, .int m.d.hd])
  exact ⟨true, ⟨a, e, _, _, [true, true], rfl, rfl, Z2 _ _ ha, he, .cons ⟨rfl, rfl, eqV_int⟩ (.cons ⟨rfl, rfl, eqV_int⟩ .nil), rfl⟩, fun G' S' => ⟨_, rfl, iteF (k G' (M.same ((Z1.trans Z2).trans S')))⟩⟩
/-- writers, fill -/
theorem seg6 (T : Txt K mg w) (fns : Fns K) {Tt : List (Addr × Str)} (hr : Room 12 (LwCx P w K mg base f (.ref c) A outer s H0 E pn).A) : ∃ t, PS (LwCx P w K mg base f (.ref c) A outer s H0 E pn) (outB.getD 6 (.Pass ⟨0, 0, 0, 0⟩)) t ∧
    ∀ (D : Ends) (sc p r : Addr) (xs : List V) (m n : Six) (v1 v6 v7 v8 v9 v10 v11 v12 v13 v14 v15 v16 : Option V) (G : Hp), Tn K Tt sc p xs m n r G →
      (∀ G' : Hp, Tn K Tt sc p xs m n r G' → D.nx [some (.ref sc), v1, some (.ref p), some (.ref m.l), some (.ref n.l), some (.ref r), v6, v7, v8, v9, v10, v11, v12, v13, v14, v15, v16] G') →
      t D [some (.ref sc), v1, some (.ref p), some (.ref m.l), some (.ref n.l), some (.ref r), v6, v7, v8, v9, v10, v11, v12, v13, v14, v15, v16] G := by
  obtain ⟨fdM, FM⟩ := fns.f_l_made
  obtain ⟨fdE, FE⟩ := fns.f_Rollout_eq
  obtain ⟨fdF, FF⟩ := fns.f_Fill_eq
  obtain ⟨fdW, FW⟩ := fns.f_Writer_eq
  obtain ⟨fdP, FP⟩ := fns.f_Phase_eq
  obtain ⟨fdL, FL⟩ := fns.f_Rollout_len
  have GM : FnOk P w K mg base (L2.CX P w) 7 (ga K "_law_made") fdM ["_law_parts_here"] (spMad K) := ok_mad FM T fns
  have GE := raw0 (ok_roE (P := P) (w := w) (base := base) FE T FF FW FP) (bRoE FE)
  have GF := raw0 (ok_flE (P := P) (w := w) (base := base) FF T) (bFlE FF)
  have rm : ∀ {k : Nat}, k ≤ 12 → Room k (LwCx P w K mg base f (.ref c) A outer s H0 E pn).A := fun h => hr.mono h
  refine ⟨_, ps_if (PW.pt (pw_or (pt_cmpR (op_neB (X := (LwCx P w K mg base f (.ref c) A outer s H0 E pn)) (rnB_list (monB_ins WrR.ext) (eqB_wr T FW)) (rm (by decide))) (pe_callTy call_list_of (by rfl) T.g_list boot_list (pa_cons (pe_fld (pv 5) (by rfl)) pa_nil)) (pe_ix ix_list (pv 3) pe_int (fun _ _ => rfl)) (nomark _)) (pw_or1 (pt_cmpR (op_neA (X := (LwCx P w K mg base f (.ref c) A outer s H0 E pn)) T.o_Fill.ne T.o_Fill.ob T.h_Fill_eq.at_ T.h_Fill_eq.fn GF (rm (by decide)) pass0) (pe_fld (pv 5) (by rfl)) (pe_ix ix_list (pv 3) pe_int (fun _ _ => rfl)) (nomark _))))) (pss_one (ps_ret pe_bl)) pss_nil, fun D sc p r xs m n v1 v6 v7 v8 v9 v10 v11 v12 v13 v14 v15 v16 G M k => ?_⟩
  obtain ⟨dx, t1, t2, t3, h0, a1, a2, a3⟩ := id M.rx.r
  have p6 : m.d.ds.length ≤ 6 := M.pm.ok.p6
  have ll := M.pm.p.1
  refine ⟨_, rfl, r, _, dx, _, _, rfl, h0, T.c_Rollout, T.n_Rollout_writers, rfl, t1, _, rfl, .inr a1, fun a na => ?_⟩
  have pm := M.pm
  have Z1 := Same.new (o := .lst m.ws) na
  have ha := upd_same (H := G) (a := a) (o := .lst m.ws)
  generalize upd G a (.lst m.ws) = G1 at Z1 ha ⊢
  refine ⟨_, rfl, m.l, _, 0, _, rfl, rfl, SqL.of (Z1 _ _ pm.hl), rfl, sameL sameW m.d.ws m.d.ws, bl_wr ha (Z1 _ _ pm.ha) (M.same Z1).pm.w (M.same Z1).pm.w, fun G2 S2 => ?_⟩
  rw [sameLW pm.w]
  refine ⟨_, rfl, iteF ?_⟩
  have M2 := (M.same Z1).same S2
  have h2 := S2 _ _ (Z1 _ _ h0)
  refine ⟨_, rfl, r, _, dx, _, _, rfl, h2, T.c_Rollout, T.n_Rollout_fill, rfl, _, rfl, m.l, _, 1, _, rfl, rfl, SqL.of M2.pm.hl, rfl, ?_⟩
  refine read_neF (X := (LwCx P w K mg base f (.ref c) A outer s H0 E pn)) T M2.pm.f M2.pm.f fun G3 S3 => ?_
  rw [sameF_self M2.pm.f]
  exact ⟨_, rfl, iteF (k G3 (M2.same S3))⟩
/-- phases -/
theorem seg7 (T : Txt K mg w) (fns : Fns K) {Tt : List (Addr × Str)} (hr : Room 12 (LwCx P w K mg base f (.ref c) A outer s H0 E pn).A) : ∃ t, PS (LwCx P w K mg base f (.ref c) A outer s H0 E pn) (outB.getD 7 (.Pass ⟨0, 0, 0, 0⟩)) t ∧
    ∀ (D : Ends) (sc p r : Addr) (xs : List V) (m n : Six) (v1 v6 v7 v8 v9 v10 v11 v12 v13 v14 v15 v16 : Option V) (G : Hp), Tn K Tt sc p xs m n r G →
      (∀ G' : Hp, Tn K Tt sc p xs m n r G' → D.nx [some (.ref sc), v1, some (.ref p), some (.ref m.l), some (.ref n.l), some (.ref r), v6, v7, v8, v9, v10, v11, v12, v13, v14, v15, v16] G') →
      t D [some (.ref sc), v1, some (.ref p), some (.ref m.l), some (.ref n.l), some (.ref r), v6, v7, v8, v9, v10, v11, v12, v13, v14, v15, v16] G := by
  obtain ⟨fdM, FM⟩ := fns.f_l_made
  obtain ⟨fdE, FE⟩ := fns.f_Rollout_eq
  obtain ⟨fdF, FF⟩ := fns.f_Fill_eq
  obtain ⟨fdW, FW⟩ := fns.f_Writer_eq
  obtain ⟨fdP, FP⟩ := fns.f_Phase_eq
  obtain ⟨fdL, FL⟩ := fns.f_Rollout_len
  have GM : FnOk P w K mg base (L2.CX P w) 7 (ga K "_law_made") fdM ["_law_parts_here"] (spMad K) := ok_mad FM T fns
  have GE := raw0 (ok_roE (P := P) (w := w) (base := base) FE T FF FW FP) (bRoE FE)
  have GF := raw0 (ok_flE (P := P) (w := w) (base := base) FF T) (bFlE FF)
  have rm : ∀ {k : Nat}, k ≤ 12 → Room k (LwCx P w K mg base f (.ref c) A outer s H0 E pn).A := fun h => hr.mono h
  refine ⟨_, ps_if (pt_cmpR (op_neB (X := (LwCx P w K mg base f (.ref c) A outer s H0 E pn)) (rnB_list (monB_ins PhR.ext) (eqB_ph T FP)) (rm (by decide))) (pe_callTy call_list_of (by rfl) T.g_list boot_list (pa_cons (pe_fld (pv 5) (by rfl)) pa_nil)) (pe_ix ix_list (pv 3) pe_int (fun _ _ => rfl)) (nomark _)) (pss_one (ps_ret pe_bl)) pss_nil, fun D sc p r xs m n v1 v6 v7 v8 v9 v10 v11 v12 v13 v14 v15 v16 G M k => ?_⟩
  obtain ⟨dx, t1, t2, t3, h0, a1, a2, a3⟩ := id M.rx.r
  have p6 : m.d.ds.length ≤ 6 := M.pm.ok.p6
  have ll := M.pm.p.1
  refine ⟨_, rfl, r, _, dx, _, _, rfl, h0, T.c_Rollout, T.n_Rollout_phases, rfl, t2, _, rfl, .inr a2, fun a na => ?_⟩
  have pm := M.pm
  have Z1 := Same.new (o := .lst m.ps) na
  have ha := upd_same (H := G) (a := a) (o := .lst m.ps)
  generalize upd G a (.lst m.ps) = G1 at Z1 ha ⊢
  refine ⟨_, rfl, m.l, _, 2, _, rfl, rfl, SqL.of (Z1 _ _ pm.hl), rfl, sameL sameP m.d.ds m.d.ds, bl_ph ha (Z1 _ _ pm.hp) (M.same Z1).pm.p (M.same Z1).pm.p, fun G2 S2 => ?_⟩
  rw [sameLP]
  exact ⟨_, rfl, iteF (k G2 ((M.same Z1).same S2))⟩
end
end K09

set_option maxRecDepth 100000
set_option maxHeartbeats 4000000
namespace K09
open PySem PySem.Spec PyProof.Rows L2 He VH RZ
open LamX (Fx)
/-- three lists that were made since G0 -/
structure Lz (K : PySem.W.Frag) (Tt : List (Addr × Str)) (sc p : Addr) (xs : List V) (m n : Six) (r q b0 b2 b5 : Addr) (G : Hp) : Prop where
  o : ∃ G0, Tn K Tt sc p xs m n r G0 ∧ Same G0 G ∧ G0 b0 = none ∧ G0 b2 = none ∧ G0 b5 = none
  hq : G q = some (.lst [.ref b0, .ref m.fa, .ref b2, .int m.d.wk, .int m.d.hd, .ref b5])
  h0 : G b0 = some (.lst m.ws)
  h2 : G b2 = some (.lst m.ps)
  h5 : G b5 = some (.lst m.bs)
  q0 : q ≠ b0
  q2 : q ≠ b2
  q5 : q ≠ b5
theorem Lz.same {K : PySem.W.Frag} {Tt : List (Addr × Str)} {sc p : Addr} {xs : List V} {m n : Six} {r q b0 b2 b5 : Addr} {G G' : Hp} (h : Lz K Tt sc p xs m n r q b0 b2 b5 G) (s : Same G G') : Lz K Tt sc p xs m n r q b0 b2 b5 G' := by
  obtain ⟨⟨G0, t, s0, n⟩, hq, h0, h2, h5, q0, q2, q5⟩ := h
  exact ⟨⟨G0, t, s0.trans s, n⟩, s _ _ hq, s _ _ h0, s _ _ h2, s _ _ h5, q0, q2, q5⟩
section
variable {P : Program} {w : World} {K : PySem.W.Frag} {mg : Str → Option Value} {base : Heap} {f c Pq : Addr} {A : Around} {outer : List Env} {s : Shared} {H0 : Hp} {E : XK} {pn : List (Addr × Obj)}
/-- back, the same once more -/
theorem seg8 (T : Txt K mg w) (fns : Fns K) {Tt : List (Addr × Str)} (hr : Room 12 (LwCx P w K mg base f (.ref c) A outer s H0 E pn).A) : ∃ t, PS (LwCx P w K mg base f (.ref c) A outer s H0 E pn) (outB.getD 8 (.Pass ⟨0, 0, 0, 0⟩)) t ∧
    ∀ (D : Ends) (sc p r : Addr) (xs : List V) (m n : Six) (v1 v6 v7 v8 v9 v10 v11 v12 v13 v14 v15 v16 : Option V) (G : Hp), Tn K Tt sc p xs m n r G →
      (∀ G' : Hp, Tn K Tt sc p xs m n r G' → D.nx [some (.ref sc), v1, some (.ref p), some (.ref m.l), some (.ref n.l), some (.ref r), v6, v7, v8, v9, v10, v11, v12, v13, v14, v15, v16] G') →
      t D [some (.ref sc), v1, some (.ref p), some (.ref m.l), some (.ref n.l), some (.ref r), v6, v7, v8, v9, v10, v11, v12, v13, v14, v15, v16] G := by
  obtain ⟨fdM, FM⟩ := fns.f_l_made
  obtain ⟨fdE, FE⟩ := fns.f_Rollout_eq
  obtain ⟨fdF, FF⟩ := fns.f_Fill_eq
  obtain ⟨fdW, FW⟩ := fns.f_Writer_eq
  obtain ⟨fdP, FP⟩ := fns.f_Phase_eq
  obtain ⟨fdL, FL⟩ := fns.f_Rollout_len
  have GM : FnOk P w K mg base (L2.CX P w) 7 (ga K "_law_made") fdM ["_law_parts_here"] (spMad K) := ok_mad FM T fns
  have GE := raw0 (ok_roE (P := P) (w := w) (base := base) FE T FF FW FP) (bRoE FE)
  have GF := raw0 (ok_flE (P := P) (w := w) (base := base) FF T) (bFlE FF)
  have rm : ∀ {k : Nat}, k ≤ 12 → Room k (LwCx P w K mg base f (.ref c) A outer s H0 E pn).A := fun h => hr.mono h
  refine ⟨_, ps_if (PW.pt (pw_or (pt_cmpR (op_neB (X := (LwCx P w K mg base f (.ref c) A outer s H0 E pn)) (rnB_tup monB_tr eqB_tr) (rm (by decide))) (pe_fld (pv 5) (by rfl)) (pe_callTy call_tuple_of (by rfl) T.g_tuple boot_tuple (pa_cons (pe_ix ix_list (pv 3) pe_int (fun _ _ => rfl)) pa_nil)) (nomark _)) (pw_or1 (pt_cmpR (op_neA (X := (LwCx P w K mg base f (.ref c) A outer s H0 E pn)) T.o_Rollout.ne T.o_Rollout.ob T.h_Rollout_eq.at_ T.h_Rollout_eq.fn GE (rm (by decide)) pass0) (pv 5) (pe_call GM (rm (by decide)) (by rfl) T.m_l_made FM.kp (bMad FM) .nil passN (pa_cons (pe_op op_catR (pe_lst (pa_cons (pe_callTy call_tuple_of (by rfl) T.g_tuple boot_tuple (pa_cons (pe_ix ix_list (pv 3) pe_int (fun _ _ => rfl)) pa_nil)) pa_nil)) (pe_slice sl_list (pv 3) (po_some pe_int) po_none)) pa_nil)) (nomark _))))) (pss_one (ps_ret pe_bl)) pss_nil, fun D sc p r xs m n v1 v6 v7 v8 v9 v10 v11 v12 v13 v14 v15 v16 G M k => ?_⟩
  obtain ⟨dx, t1, t2, t3, h0, a1, a2, a3⟩ := id M.rx.r
  have p6 : m.d.ds.length ≤ 6 := M.pm.ok.p6
  have ll := M.pm.p.1
  have pm := M.pm
  refine ⟨_, rfl, r, _, dx, _, _, rfl, h0, T.c_Rollout, T.n_Rollout_back, rfl, _, rfl, m.l, _, 5, _, rfl, rfl, SqL.of pm.hl, rfl, m.lw, m.bs, rfl, .inl ⟨SqL.of pm.hw, fun u nu => ?_⟩⟩
  have Z1 := Same.new (o := .tup m.bs) nu
  have hu := upd_same (H := G) (a := u) (o := .tup m.bs)
  generalize upd G u (.tup m.bs) = G1 at Z1 hu ⊢
  refine ⟨_, bt_wy (a3.same Z1) (SqT.of hu) (M.same Z1).pm.b (M.same Z1).pm.b, fun G2 S2 => ?_⟩
  rw [sameLY]
  refine ⟨_, rfl, iteF ?_⟩
  have M2 := (M.same Z1).same S2
  clear pm h0 a1 a2 a3 Z1 S2 hu nu M
  have pm := M2.pm
  refine ⟨_, rfl, _, rfl, m.l, _, 0, _, rfl, rfl, SqL.of pm.hl, rfl, m.la, m.ws, rfl, .inl ⟨SqL.of pm.ha, fun t nt => ?_⟩⟩
  have Z1 := Same.new (o := .tup m.ws) nt
  have ht := upd_same (H := G2) (a := t) (o := .tup m.ws)
  generalize upd G2 t (.tup m.ws) = G3 at Z1 ht ⊢
  refine ⟨(show 1 ≤ sizeLine by decide), fun L nL => ?_⟩
  have Z2 := Same.new (o := .lst [.ref t]) nL
  have hL := upd_same (H := G3) (a := L) (o := .lst [.ref t])
  generalize upd G3 L (.lst [.ref t]) = G4 at Z2 hL ⊢
  refine ⟨_, rfl, _, rfl, m.l, _, rfl, SqL.of (Z2 _ _ (Z1 _ _ pm.hl)), fun S nS => ?_⟩
  have e0 : cutV [V.ref m.la, V.ref m.fa, V.ref m.lp, V.int m.d.wk, V.int m.d.hd, V.ref m.lw] (some 1) none = [V.ref m.fa, V.ref m.lp, V.int m.d.wk, V.int m.d.hd, V.ref m.lw] := rfl
  rw [e0]
  have Z3 := Same.new (o := .lst [V.ref m.fa, V.ref m.lp, V.int m.d.wk, V.int m.d.hd, V.ref m.lw]) nS
  have hS := upd_same (H := G4) (a := S) (o := .lst [V.ref m.fa, V.ref m.lp, V.int m.d.wk, V.int m.d.hd, V.ref m.lw])
  generalize upd G4 S (.lst [V.ref m.fa, V.ref m.lp, V.int m.d.wk, V.int m.d.hd, V.ref m.lw]) = G5 at Z3 hS ⊢
  refine ⟨L, S, _, _, rfl, rfl, SqL.of (Z3 _ _ hL), SqL.of hS, (show 6 ≤ sizeLine by decide), fun F nF => ?_⟩
  have Z4 := Same.new (o := .lst ([V.ref t] ++ [V.ref m.fa, V.ref m.lp, V.int m.d.wk, V.int m.d.hd, V.ref m.lw])) nF
  have hF : upd G5 F (.lst ([V.ref t] ++ [V.ref m.fa, V.ref m.lp, V.int m.d.wk, V.int m.d.hd, V.ref m.lw])) F = some (HO.lst [V.ref t, V.ref m.fa, V.ref m.lp, V.int m.d.wk, V.int m.d.hd, V.ref m.lw]) := upd_same (H := G5) (a := F)
  have ZZ := ((Z1.trans Z2).trans Z3).trans Z4
  have ht6 := Z4 _ _ (Z3 _ _ (Z2 _ _ ht))
  have M6 := M2.same ZZ
  dsimp only [tNil]
  generalize upd G5 F (.lst ([V.ref t] ++ [V.ref m.fa, V.ref m.lp, V.int m.d.wk, V.int m.d.hd, V.ref m.lw])) = G6 at hF ht6 M6 ⊢
  obtain ⟨⟨c1, ex, w1, w2, w3⟩, f1, pp, k1, k2, yy⟩ := Pt.bnt M6.pm
  refine mk_ro hF ⟨⟨t, rfl, .inr (SqT.of ht6), w2, w3⟩, f1, pp, k1, k2, yy⟩ M6.pm.ok M6.pm.w M6.pm.f M6.pm.p M6.pm.b fun e G7 S7 rx => ?_
  have M7 := M6.same S7
  refine read_neR (X := (LwCx P w K mg base f (.ref c) A outer s H0 E pn)) T M7.rx rx fun G8 S8 => ?_
  rw [sameR_self rx]
  exact ⟨_, rfl, iteF (k G8 (M7.same S8))⟩
/-- lists of one's own -/
theorem seg9 (T : Txt K mg w) (fns : Fns K) {Tt : List (Addr × Str)} (hr : Room 12 (LwCx P w K mg base f (.ref c) A outer s H0 E pn).A) : ∃ t, PS (LwCx P w K mg base f (.ref c) A outer s H0 E pn) (outB.getD 9 (.Pass ⟨0, 0, 0, 0⟩)) t ∧
    ∀ (D : Ends) (sc p r : Addr) (xs : List V) (m n : Six) (v1 v6 v7 v8 v9 v10 v11 v12 v13 v14 v15 v16 : Option V) (G : Hp), Tn K Tt sc p xs m n r G →
      (∀ (q b0 b2 b5 : Addr) (G' : Hp), Tn K Tt sc p xs m n r G' → Lz K Tt sc p xs m n r q b0 b2 b5 G' → D.nx [some (.ref sc), v1, some (.ref p), some (.ref m.l), some (.ref n.l), some (.ref r), v6, some (.ref q), v8, v9, v10, v11, v12, v13, v14, v15, v16] G') →
      t D [some (.ref sc), v1, some (.ref p), some (.ref m.l), some (.ref n.l), some (.ref r), v6, v7, v8, v9, v10, v11, v12, v13, v14, v15, v16] G := by
  obtain ⟨fdM, FM⟩ := fns.f_l_made
  obtain ⟨fdE, FE⟩ := fns.f_Rollout_eq
  obtain ⟨fdF, FF⟩ := fns.f_Fill_eq
  obtain ⟨fdW, FW⟩ := fns.f_Writer_eq
  obtain ⟨fdP, FP⟩ := fns.f_Phase_eq
  obtain ⟨fdL, FL⟩ := fns.f_Rollout_len
  have GM : FnOk P w K mg base (L2.CX P w) 7 (ga K "_law_made") fdM ["_law_parts_here"] (spMad K) := ok_mad FM T fns
  have GE := raw0 (ok_roE (P := P) (w := w) (base := base) FE T FF FW FP) (bRoE FE)
  have GF := raw0 (ok_flE (P := P) (w := w) (base := base) FF T) (bFlE FF)
  have rm : ∀ {k : Nat}, k ≤ 12 → Room k (LwCx P w K mg base f (.ref c) A outer s H0 E pn).A := fun h => hr.mono h
  refine ⟨_, ps_set (X := (LwCx P w K mg base f (.ref c) A outer s H0 E pn)) (i := 7) scLaw.nd rfl (Or.inl rfl) (pe_op op_catR (pe_op op_catR (pe_lst (pa_cons (pe_callTy call_list_of (by rfl) T.g_list boot_list (pa_cons (pe_ix ix_list (pv 3) pe_int (fun _ _ => rfl)) pa_nil)) (pa_cons (pe_ix ix_list (pv 3) pe_int (fun _ _ => rfl)) (pa_cons (pe_callTy call_list_of (by rfl) T.g_list boot_list (pa_cons (pe_ix ix_list (pv 3) pe_int (fun _ _ => rfl)) pa_nil)) pa_nil)))) (pe_slice sl_list (pv 3) (po_some pe_int) (po_some pe_int))) (pe_lst (pa_cons (pe_callTy call_list_of (by rfl) T.g_list boot_list (pa_cons (pe_ix ix_list (pv 3) pe_int (fun _ _ => rfl)) pa_nil)) pa_nil))), fun D sc p r xs m n v1 v6 v7 v8 v9 v10 v11 v12 v13 v14 v15 v16 G M k => ?_⟩
  obtain ⟨dx, t1, t2, t3, h0, a1, a2, a3⟩ := id M.rx.r
  have p6 : m.d.ds.length ≤ 6 := M.pm.ok.p6
  have ll := M.pm.p.1
  have pm := M.pm
  refine ⟨_, rfl, m.l, _, 0, _, rfl, rfl, SqL.of pm.hl, rfl, m.la, m.ws, rfl, .inl (SqL.of pm.ha), fun b0 n0 => ?_⟩
  have Z1 := Same.new (o := .lst m.ws) n0
  have h0 := upd_same (H := G) (a := b0) (o := .lst m.ws)
  generalize upd G b0 (.lst m.ws) = G1 at Z1 h0 ⊢
  refine ⟨_, rfl, m.l, _, 1, _, rfl, rfl, SqL.of (Z1 _ _ pm.hl), rfl, _, rfl, m.l, _, 2, _, rfl, rfl, SqL.of (Z1 _ _ pm.hl), rfl, m.lp, m.ps, rfl, .inl (SqL.of (Z1 _ _ pm.hp)), fun b2 n2 => ?_⟩
  have Z2 := Same.new (o := .lst m.ps) n2
  have h2 := upd_same (H := G1) (a := b2) (o := .lst m.ps)
  generalize upd G1 b2 (.lst m.ps) = G2 at Z2 h2 ⊢
  refine ⟨(show 3 ≤ sizeLine by decide), fun L nL => ?_⟩
  have Z3 := Same.new (o := .lst [.ref b0, .ref m.fa, .ref b2]) nL
  have hL := upd_same (H := G2) (a := L) (o := .lst [.ref b0, .ref m.fa, .ref b2])
  generalize upd G2 L (.lst [.ref b0, .ref m.fa, .ref b2]) = G3 at Z3 hL ⊢
  have Z13 := (Z1.trans Z2).trans Z3
  refine ⟨_, rfl, _, rfl, _, rfl, m.l, _, rfl, SqL.of (Z13 _ _ pm.hl), fun S nS => ?_⟩
  have e0 : cutV [V.ref m.la, V.ref m.fa, V.ref m.lp, V.int m.d.wk, V.int m.d.hd, V.ref m.lw] (some 3) (some 5) = [V.int m.d.wk, V.int m.d.hd] := rfl
  rw [e0]
  have Z4 := Same.new (o := .lst [.int m.d.wk, .int m.d.hd]) nS
  have hS := upd_same (H := G3) (a := S) (o := .lst [.int m.d.wk, .int m.d.hd])
  generalize upd G3 S (.lst [.int m.d.wk, .int m.d.hd]) = G4 at Z4 hS ⊢
  refine ⟨L, S, _, _, rfl, rfl, SqL.of (Z4 _ _ hL), SqL.of hS, (show 5 ≤ sizeLine by decide), fun C nC => ?_⟩
  have Z5 := Same.new (o := .lst ([.ref b0, .ref m.fa, .ref b2] ++ [.int m.d.wk, .int m.d.hd])) nC
  have hC := upd_same (H := G4) (a := C) (o := .lst ([.ref b0, .ref m.fa, .ref b2] ++ [.int m.d.wk, .int m.d.hd]))
  generalize upd G4 C (.lst ([.ref b0, .ref m.fa, .ref b2] ++ [.int m.d.wk, .int m.d.hd])) = G5 at Z5 hC ⊢
  have Z15 := (Z13.trans Z4).trans Z5
  refine ⟨_, rfl, m.l, _, 5, _, rfl, rfl, SqL.of (Z15 _ _ pm.hl), rfl, m.lw, m.bs, rfl, .inl (SqL.of (Z15 _ _ pm.hw)), fun b5 n5 => ?_⟩
  have Z6 := Same.new (o := .lst m.bs) n5
  have h5 := upd_same (H := G5) (a := b5) (o := .lst m.bs)
  have n5' := Z15.free n5
  generalize upd G5 b5 (.lst m.bs) = G6 at Z6 h5 ⊢
  refine ⟨(show 1 ≤ sizeLine by decide), fun I nI => ?_⟩
  have Z7 := Same.new (o := .lst [.ref b5]) nI
  have hI := upd_same (H := G6) (a := I) (o := .lst [.ref b5])
  generalize upd G6 I (.lst [.ref b5]) = G7 at Z7 hI ⊢
  refine ⟨C, I, _, _, rfl, rfl, SqL.of (Z7 _ _ (Z6 _ _ hC)), SqL.of hI, (show 6 ≤ sizeLine by decide), fun q nq => ?_⟩
  have Z8 := Same.new (o := .lst ([.ref b0, .ref m.fa, .ref b2] ++ [.int m.d.wk, .int m.d.hd] ++ [.ref b5])) nq
  have h07 := ((((((Z2.trans Z3).trans Z4).trans Z5).trans Z6).trans Z7) _ _ h0)
  have h27 := (((((Z3.trans Z4).trans Z5).trans Z6).trans Z7) _ _ h2)
  have h57 := Z7 _ _ h5
  have ZZ := ((Z15.trans Z6).trans Z7).trans Z8
  exact k q b0 b2 b5 _ (M.same ZZ) ⟨⟨G, M, ZZ, n0, Z1.free n2, n5'⟩, upd_same, Z8 _ _ h07, Z8 _ _ h27, Z8 _ _ h57, (ne_of_none h07 nq).symm, (ne_of_none h27 nq).symm, (ne_of_none h57 nq).symm⟩
/-- the Rollout of these -/
theorem seg10 (T : Txt K mg w) (fns : Fns K) {Tt : List (Addr × Str)} (hr : Room 12 (LwCx P w K mg base f (.ref c) A outer s H0 E pn).A) : ∃ t, PS (LwCx P w K mg base f (.ref c) A outer s H0 E pn) (outB.getD 10 (.Pass ⟨0, 0, 0, 0⟩)) t ∧
    ∀ (D : Ends) (sc p r : Addr) (q b0 b2 b5 : Addr) (xs : List V) (m n : Six) (v1 v6 v7 v8 v9 v10 v11 v12 v13 v14 v15 v16 : Option V) (G : Hp), Tn K Tt sc p xs m n r G →
      Lz K Tt sc p xs m n r q b0 b2 b5 G → (∀ (e : Addr) (G' : Hp), Tn K Tt sc p xs m n r G' → Lz K Tt sc p xs m n r q b0 b2 b5 G' → RoX K G' e m.ws m.ps m.bs m.fa m.d → D.nx [some (.ref sc), v1, some (.ref p), some (.ref m.l), some (.ref n.l), some (.ref r), v6, some (.ref q), some (.ref e), v9, v10, v11, v12, v13, v14, v15, v16] G') →
      t D [some (.ref sc), v1, some (.ref p), some (.ref m.l), some (.ref n.l), some (.ref r), v6, some (.ref q), v8, v9, v10, v11, v12, v13, v14, v15, v16] G := by
  obtain ⟨fdM, FM⟩ := fns.f_l_made
  obtain ⟨fdE, FE⟩ := fns.f_Rollout_eq
  obtain ⟨fdF, FF⟩ := fns.f_Fill_eq
  obtain ⟨fdW, FW⟩ := fns.f_Writer_eq
  obtain ⟨fdP, FP⟩ := fns.f_Phase_eq
  obtain ⟨fdL, FL⟩ := fns.f_Rollout_len
  have GM : FnOk P w K mg base (L2.CX P w) 7 (ga K "_law_made") fdM ["_law_parts_here"] (spMad K) := ok_mad FM T fns
  have GE := raw0 (ok_roE (P := P) (w := w) (base := base) FE T FF FW FP) (bRoE FE)
  have GF := raw0 (ok_flE (P := P) (w := w) (base := base) FF T) (bFlE FF)
  have rm : ∀ {k : Nat}, k ≤ 12 → Room k (LwCx P w K mg base f (.ref c) A outer s H0 E pn).A := fun h => hr.mono h
  refine ⟨_, ps_set (X := (LwCx P w K mg base f (.ref c) A outer s H0 E pn)) (i := 8) scLaw.nd rfl (Or.inl rfl) (pe_call GM (rm (by decide)) (by rfl) T.m_l_made FM.kp (bMad FM) .nil passN (pa_cons (pv 7) pa_nil)), fun D sc p r q b0 b2 b5 xs m n v1 v6 v7 v8 v9 v10 v11 v12 v13 v14 v15 v16 G M Z k => ?_⟩
  refine ⟨_, rfl, ?_⟩
  dsimp only [tNil]
  obtain ⟨⟨c1, ex, w1, w2, w3⟩, f1, ⟨c2, ex2, p1, p2, p3⟩, k1, k2, ⟨c3, ex3, y1, y2, y3⟩⟩ := Pt.bnt M.pm
  refine mk_ro Z.hq ⟨⟨b0, rfl, .inl (SqL.of Z.h0), w2, w3⟩, f1, ⟨b2, rfl, .inl (SqL.of Z.h2), p2, p3⟩, k1, k2, ⟨b5, rfl, .inl (SqL.of Z.h5), y2, y3⟩⟩ M.pm.ok M.pm.w M.pm.f M.pm.p M.pm.b fun e H5 S5 rx => ?_
  exact k e H5 (M.same S5) (Z.same S5) rx
/-- they are changed -/
theorem seg11 (T : Txt K mg w) (fns : Fns K) {Tt : List (Addr × Str)} (hr : Room 12 (LwCx P w K mg base f (.ref c) A outer s H0 E pn).A) : ∃ t, PS (LwCx P w K mg base f (.ref c) A outer s H0 E pn) (outB.getD 11 (.Pass ⟨0, 0, 0, 0⟩)) t ∧
    ∀ (D : Ends) (sc p r : Addr) (q b0 b2 b5 e : Addr) (xs : List V) (m n : Six) (v1 v6 v7 v8 v9 v10 v11 v12 v13 v14 v15 v16 : Option V) (G : Hp), Tn K Tt sc p xs m n r G →
      Lz K Tt sc p xs m n r q b0 b2 b5 G → RoX K G e m.ws m.ps m.bs m.fa m.d → (∀ (v9 : Option V) (G' : Hp), Tn K Tt sc p xs m n r G' → RoX K G' e m.ws m.ps m.bs m.fa m.d → D.nx [some (.ref sc), v1, some (.ref p), some (.ref m.l), some (.ref n.l), some (.ref r), v6, some (.ref q), some (.ref e), v9, v10, v11, v12, v13, v14, v15, v16] G') →
      t D [some (.ref sc), v1, some (.ref p), some (.ref m.l), some (.ref n.l), some (.ref r), v6, some (.ref q), some (.ref e), v9, v10, v11, v12, v13, v14, v15, v16] G := by
  obtain ⟨fdM, FM⟩ := fns.f_l_made
  obtain ⟨fdE, FE⟩ := fns.f_Rollout_eq
  obtain ⟨fdF, FF⟩ := fns.f_Fill_eq
  obtain ⟨fdW, FW⟩ := fns.f_Writer_eq
  obtain ⟨fdP, FP⟩ := fns.f_Phase_eq
  obtain ⟨fdL, FL⟩ := fns.f_Rollout_len
  have GM : FnOk P w K mg base (L2.CX P w) 7 (ga K "_law_made") fdM ["_law_parts_here"] (spMad K) := ok_mad FM T fns
  have GE := raw0 (ok_roE (P := P) (w := w) (base := base) FE T FF FW FP) (bRoE FE)
  have GF := raw0 (ok_flE (P := P) (w := w) (base := base) FF T) (bFlE FF)
  have rm : ∀ {k : Nat}, k ≤ 12 → Room k (LwCx P w K mg base f (.ref c) A outer s H0 E pn).A := fun h => hr.mono h
  refine ⟨_, ps_for (X := (LwCx P w K mg base f (.ref c) A outer s H0 E pn)) PassesOwn.never rfl (pi_list (pe_lst (pa_cons pe_int (pa_cons pe_int (pa_cons pe_int pa_nil))))) (pg_name (i := 9) scLaw.nd rfl (Or.inl rfl)) (pss_one (ps_expr (pe_bm PySem.F.plainAttrs_list PySem.F.slot_list_append PySem.F.type_list_append mt_append (pe_ix ix_list (pv 7) (pv 9) (fun _ _ => rfl)) (pa_cons pe_non pa_nil)))), fun D sc p r q b0 b2 b5 e xs m n v1 v6 v7 v8 v9 v10 v11 v12 v13 v14 v15 v16 G M Z re k => ?_⟩
  have big : 1000 < sizeLine := by decide
  have lw : m.ws.length ≤ 10 := by
    have := M.pm.ok.z4
    have l1 := M.pm.w.1
    have l2 : m.d.ro.zs.length = m.d.ws.length := List.length_map _
    omega
  have lp : m.ps.length ≤ 10 := by
    have : m.d.ds.length ≤ 6 := M.pm.ok.p6
    have l1 := M.pm.p.1
    omega
  have lb := M.pm.lb
  refine ⟨(show 3 ≤ sizeLine by decide), fun L nL => ⟨L, rfl, ⟨_, SqL.of upd_same⟩, ?_⟩⟩
  have SL := Same.new (o := .lst [.int 0, .int 2, .int 5]) nL
  have hL := upd_same (H := G) (a := L) (o := .lst [.int 0, .int 2, .int 5])
  have l0 := ne_of_none Z.h0 nL
  have l2 := ne_of_none Z.h2 nL
  have l5 := ne_of_none Z.h5 nL
  have Z1 := Z.same SL
  have re1 := re.fx (Fx.of SL)
  clear M Z re SL nL
  generalize upd G L (.lst [.int 0, .int 2, .int 5]) = G1 at hL Z1 re1 ⊢
  obtain ⟨⟨G0, tn, s0, n0, n2, n5⟩, hq, h0, h2, h5, q0, q2, q5⟩ := Z1
  refine for_list (K := K) (a := L) (xs := [.int 0, .int 2, .int 5]) (fun i σ G => ∃ v9 : Option V, σ = [some (.ref sc), v1, some (.ref p), some (.ref m.l), some (.ref n.l), some (.ref r), v6, some (.ref q), some (.ref e), v9, v10, v11, v12, v13, v14, v15, v16] ∧ Same G0 G ∧ G L = some (.lst [.int 0, .int 2, .int 5]) ∧ G q = some (.lst [.ref b0, .ref m.fa, .ref b2, .int m.d.wk, .int m.d.hd, .ref b5]) ∧ RoX K G e m.ws m.ps m.bs m.fa m.d ∧ ∀ b ∈ [b0, b2, b5], ∃ ys, G b = some (.lst ys) ∧ ys.length ≤ 200 + i)
    ⟨_, rfl, s0, hL, hq, re1, fun b hb => ?_⟩ (fun i σ G _ g => ?_) (fun i y σ G hy g => ?_) (fun σ G g => ?_)
  · simp only [List.mem_cons, List.not_mem_nil, or_false] at hb
    rcases hb with rfl | rfl | rfl
    · exact ⟨_, h0, by omega⟩
    · exact ⟨_, h2, by omega⟩
    · exact ⟨_, h5, by omega⟩
  · obtain ⟨_, _, _, g, _⟩ := g
    exact SqL.of g
  · obtain ⟨v9, rfl, s1, hL1, hq1, re2, al⟩ := g
    obtain ⟨j, b, rfl, mb, ej⟩ : ∃ (j : Int) (b : Addr), y = .int j ∧ b ∈ [b0, b2, b5] ∧ atI [V.ref b0, .ref m.fa, .ref b2, .int m.d.wk, .int m.d.hd, .ref b5] j = some (.ref b) := match i, hy with
      | 0, hy => by cases hy; exact ⟨0, b0, rfl, by simp, rfl⟩
      | 1, hy => by cases hy; exact ⟨2, b2, rfl, by simp, rfl⟩
      | 2, hy => by cases hy; exact ⟨5, b5, rfl, by simp, rfl⟩
    obtain ⟨ys, hb, lb2⟩ := al b mb
    have li : i < 3 := (List.getElem?_eq_some_iff.mp hy).1
    have nb : G0 b = none ∧ b ≠ L ∧ b ≠ q := by
      simp only [List.mem_cons, List.not_mem_nil, or_false] at mb
      rcases mb with rfl | rfl | rfl
      · exact ⟨n0, l0, q0.symm⟩
      · exact ⟨n2, l2, q2.symm⟩
      · exact ⟨n5, l5, q5.symm⟩
    refine ⟨_, rfl, _, rfl, q, _, j, _, rfl, rfl, SqL.of hq1, ej, .inl ⟨rfl, _, SqL.of hb⟩, b, ys, .non, rfl, rfl, hb, by omega, ?_⟩
    refine ⟨_, rfl, fun b' o e => (upd_ne (fun z => by rw [z, nb.1] at e; cases e)).trans (s1 _ _ e), (upd_ne nb.2.1.symm).trans hL1, (upd_ne nb.2.2.symm).trans hq1, re2.fx (fun b' o e _ n => (upd_ne (fun z => by rw [z, hb] at e; exact n _ (Option.some.inj e).symm)).trans e), fun b' mb' => ?_⟩
    by_cases e : b' = b
    · subst e
      exact ⟨_, upd_same, by rw [List.length_append]; simp only [List.length_cons, List.length_nil]; omega⟩
    · obtain ⟨zs, hz, lz⟩ := al b' mb'
      exact ⟨zs, (upd_ne e).trans hz, by omega⟩
  · obtain ⟨v9, rfl, s1, hL1, hq1, re2, al⟩ := g
    exact k v9 G (tn.same s1) re2
/-- its parts -/
theorem seg12 (T : Txt K mg w) (fns : Fns K) {Tt : List (Addr × Str)} (hr : Room 12 (LwCx P w K mg base f (.ref c) A outer s H0 E pn).A) : ∃ t, PS (LwCx P w K mg base f (.ref c) A outer s H0 E pn) (outB.getD 12 (.Pass ⟨0, 0, 0, 0⟩)) t ∧
    ∀ (D : Ends) (sc p r : Addr) (e : Addr) (xs : List V) (m n : Six) (v1 v6 v7 v8 v9 v10 v11 v12 v13 v14 v15 v16 : Option V) (G : Hp), Tn K Tt sc p xs m n r G →
      RoX K G e m.ws m.ps m.bs m.fa m.d → (∀ (a10 x y z : Addr) (G' : Hp), Tn K Tt sc p xs m n r G' → RoX K G' e m.ws m.ps m.bs m.fa m.d → (G' a10 = some (.lst [.ref x, .ref y, .ref z]) ∧ SqT K G' x m.ws ∧ SqT K G' y m.ps ∧ SqT K G' z m.bs) → D.nx [some (.ref sc), v1, some (.ref p), some (.ref m.l), some (.ref n.l), some (.ref r), v6, v7, some (.ref e), v9, some (.ref a10), v11, v12, v13, v14, v15, v16] G') →
      t D [some (.ref sc), v1, some (.ref p), some (.ref m.l), some (.ref n.l), some (.ref r), v6, v7, some (.ref e), v9, v10, v11, v12, v13, v14, v15, v16] G := by
  obtain ⟨fdM, FM⟩ := fns.f_l_made
  obtain ⟨fdE, FE⟩ := fns.f_Rollout_eq
  obtain ⟨fdF, FF⟩ := fns.f_Fill_eq
  obtain ⟨fdW, FW⟩ := fns.f_Writer_eq
  obtain ⟨fdP, FP⟩ := fns.f_Phase_eq
  obtain ⟨fdL, FL⟩ := fns.f_Rollout_len
  have GM : FnOk P w K mg base (L2.CX P w) 7 (ga K "_law_made") fdM ["_law_parts_here"] (spMad K) := ok_mad FM T fns
  have GE := raw0 (ok_roE (P := P) (w := w) (base := base) FE T FF FW FP) (bRoE FE)
  have GF := raw0 (ok_flE (P := P) (w := w) (base := base) FF T) (bFlE FF)
  have rm : ∀ {k : Nat}, k ≤ 12 → Room k (LwCx P w K mg base f (.ref c) A outer s H0 E pn).A := fun h => hr.mono h
  refine ⟨_, ps_set (X := (LwCx P w K mg base f (.ref c) A outer s H0 E pn)) (i := 10) scLaw.nd rfl (Or.inl rfl) (pe_lst (pa_cons (pe_fld (pv 8) (by rfl)) (pa_cons (pe_fld (pv 8) (by rfl)) (pa_cons (pe_fld (pv 8) (by rfl)) pa_nil)))), fun D sc p r e xs m n v1 v6 v7 v8 v9 v10 v11 v12 v13 v14 v15 v16 G M re k => ?_⟩
  obtain ⟨dx, t1, t2, t3, h0, a1, a2, a3⟩ := id re.r
  refine ⟨_, rfl, e, _, dx, _, _, rfl, h0, T.c_Rollout, T.n_Rollout_writers, rfl, _, rfl, e, _, dx, _, _, rfl, h0, T.c_Rollout, T.n_Rollout_phases, rfl, _, rfl, e, _, dx, _, _, rfl, h0, T.c_Rollout, T.n_Rollout_back, rfl, (show 3 ≤ sizeLine by decide), fun L nL => ?_⟩
  have SL := Same.new (o := .lst [.ref t1, .ref t2, .ref t3]) nL
  exact k L t1 t2 t3 _ (M.same SL) (re.fx (Fx.of SL)) ⟨upd_same, a1.same SL, a2.same SL, a3.same SL⟩
/-- they are tuples -/
theorem seg13 (T : Txt K mg w) (fns : Fns K) {Tt : List (Addr × Str)} (hr : Room 12 (LwCx P w K mg base f (.ref c) A outer s H0 E pn).A) : ∃ t, PS (LwCx P w K mg base f (.ref c) A outer s H0 E pn) (outB.getD 13 (.Pass ⟨0, 0, 0, 0⟩)) t ∧
    ∀ (D : Ends) (sc p r : Addr) (e a10 x y z : Addr) (xs : List V) (m n : Six) (v1 v6 v7 v8 v9 v10 v11 v12 v13 v14 v15 v16 : Option V) (G : Hp), Tn K Tt sc p xs m n r G →
      RoX K G e m.ws m.ps m.bs m.fa m.d → (G a10 = some (.lst [.ref x, .ref y, .ref z]) ∧ SqT K G x m.ws ∧ SqT K G y m.ps ∧ SqT K G z m.bs) → (∀ (v15 : Option V) (G' : Hp), Tn K Tt sc p xs m n r G' → D.nx [some (.ref sc), v1, some (.ref p), some (.ref m.l), some (.ref n.l), some (.ref r), v6, v7, some (.ref e), v9, some (.ref a10), v11, v12, v13, v14, v15, v16] G') →
      t D [some (.ref sc), v1, some (.ref p), some (.ref m.l), some (.ref n.l), some (.ref r), v6, v7, some (.ref e), v9, some (.ref a10), v11, v12, v13, v14, v15, v16] G := by
  obtain ⟨fdM, FM⟩ := fns.f_l_made
  obtain ⟨fdE, FE⟩ := fns.f_Rollout_eq
  obtain ⟨fdF, FF⟩ := fns.f_Fill_eq
  obtain ⟨fdW, FW⟩ := fns.f_Writer_eq
  obtain ⟨fdP, FP⟩ := fns.f_Phase_eq
  obtain ⟨fdL, FL⟩ := fns.f_Rollout_len
  have GM : FnOk P w K mg base (L2.CX P w) 7 (ga K "_law_made") fdM ["_law_parts_here"] (spMad K) := ok_mad FM T fns
  have GE := raw0 (ok_roE (P := P) (w := w) (base := base) FE T FF FW FP) (bRoE FE)
  have GF := raw0 (ok_flE (P := P) (w := w) (base := base) FF T) (bFlE FF)
  have rm : ∀ {k : Nat}, k ≤ 12 → Room k (LwCx P w K mg base f (.ref c) A outer s H0 E pn).A := fun h => hr.mono h
  refine ⟨_, ps_if (PW.pt (pw_or (pt_cmpR (op_neA (X := (LwCx P w K mg base f (.ref c) A outer s H0 E pn)) T.o_Rollout.ne T.o_Rollout.ob T.h_Rollout_eq.at_ T.h_Rollout_eq.fn GE (rm (by decide)) pass0) (pv 8) (pv 5) (nomark _)) (pw_or1 (pt_cmpR (op_neB (X := (LwCx P w K mg base f (.ref c) A outer s H0 E pn)) (rnB_list monB_flat eqB_flat) (rm (by decide))) (pe_lc (X := (LwCx P w K mg base f (.ref c) A outer s H0 E pn)) (own := [("_law_one_here", 15)]) (g := gName 15) (tt := tYes) (te := tCB (rIsi K) (tCons (tVar 15) (tCons (tC (.ty "tuple")) tNil))) rfl scLaw.nd (pi_list (pv 10)) (blkOk_by (N := nLaw) (sc := defScope sLaw) (by decide +kernel)) (fun _ _ _ _ _ => pg_name (i := 15) scLaw.nd rfl (Or.inl rfl)) (fun _ _ _ _ _ => pts_nil) (fun _ _ _ _ _ => pe_callB call_isi (by rfl) T.g_isinstance boot_isinstance (pa_cons (pv 15) (pa_cons (pe_bltn (v := .ty "tuple") (by rfl) T.g_tuple boot_tuple rfl) pa_nil)))) (pe_op op_rep (pe_lst (pa_cons pe_bl pa_nil)) pe_int) (nomark _))))) (pss_one (ps_ret pe_bl)) pss_nil, fun D sc p r e a10 x y z xs m n v1 v6 v7 v8 v9 v10 v11 v12 v13 v14 v15 v16 G M re h10 k => ?_⟩
  refine ⟨_, rfl, _, rfl, ?_⟩
  refine read_neR (X := (LwCx P w K mg base f (.ref c) A outer s H0 E pn)) T re M.rx fun G1 S1 => ?_
  rw [sameR_self M.rx]
  have M1 := M.same S1
  have x1 := (h10.2.1.same S1)
  have y1 := (h10.2.2.1.same S1)
  have z1 := (h10.2.2.2.same S1)
  have h1 := S1 _ _ h10.1
  clear M h10 re S1
  refine ⟨_, rfl, iteF ⟨_, rfl, a10, rfl, ⟨_, SqL.of h1⟩, fun D2 nD => ?_⟩⟩
  refine lc_list (K := K) (xs := [.ref x, .ref y, .ref z]) (fun i G' => Same G1 G' ∧ G' D2 = some (.lst (List.replicate i (V.bl true)))) ⟨Same.new nD, upd_same⟩ (fun i G' _ q => SqL.of (q.1 _ _ h1)) (fun i v G' hx q => ?_) (fun G' q => ?_)
  · obtain ⟨s2, hD⟩ := q
    have ty : TyX K G' v (.type "tuple") ∧ i < 3 := match i, hx with
      | 0, hx => by cases hx; exact ⟨sqT_ty (x1.same s2), by decide⟩
      | 1, hx => by cases hx; exact ⟨sqT_ty (y1.same s2), by decide⟩
      | 2, hx => by cases hx; exact ⟨sqT_ty (z1.same s2), by decide⟩
    refine ⟨rfl, _, rfl, _, _, _, _, true, rfl, .ty "tuple", ty.1, kit_ty (by decide +kernel), _, hD, ?_, same_put s2 nD, ?_⟩
    · rw [List.length_replicate]
      have big : 1000 < sizeLine := by decide
      have := ty.2
      omega
    · rw [upd_same, List.replicate_succ']
  · obtain ⟨s2, hD⟩ := q
    refine ⟨(show 1 ≤ sizeLine by decide), fun l nl => ⟨l, 3, [.bl true], rfl, rfl, upd_same, by decide, by decide, (show 3 ≤ sizeLine by decide), fun u nu => ?_⟩⟩
    have Z1 := Same.new (o := .lst [.bl true]) nl
    have Z2 := Same.new (o := .lst [.bl true, .bl true, .bl true]) nu
    refine ⟨true, ⟨D2, u, _, _, [true, true, true], rfl, rfl, Z2 _ _ (Z1 _ _ hD), upd_same, .cons ⟨rfl, rfl, eqV_bl⟩ (.cons ⟨rfl, rfl, eqV_bl⟩ (.cons ⟨rfl, rfl, eqV_bl⟩ .nil)), rfl⟩, fun G5 S5 => ⟨_, rfl, iteF ?_⟩⟩
    exact k _ G5 (M1.same (((s2.trans Z1).trans Z2).trans S5))
end
end K09

set_option maxRecDepth 100000
set_option maxHeartbeats 4000000
namespace K09
open PySem PySem.Spec PyProof.Rows L2 He VH RZ
open LamX (Fx)
theorem read_eqI {H : Hp} {i j : Int} {Q : VK} (q : Q (.bl (decide (i = j))) H) : rEq (.int i) (.int j) H Q := ⟨rfl, by
  rw [show decide (V.int i = V.int j) = decide (i = j) by simp]
  exact q⟩
/-- one part == the other's -/
theorem read_alt {K : PySem.W.Frag} {H : Hp} {p : Addr} {m n : Six} (M : m.At K H p) (N : n.At K H p) {i : Nat} (li : i < 6) {Q : VK} (q : ∀ H', Same H H' → Q (.bl (bitM m n i)) H') :
    rEqB (BList (BIns (ga K "Writer") (WrR K))) (n.val i) (m.val i) H Q ∨ rEqB (BIns (ga K "Fill") (FlR K)) (n.val i) (m.val i) H Q ∨ rEqB (BList (BIns (ga K "Phase") (PhR K))) (n.val i) (m.val i) H Q ∨ rEq (n.val i) (m.val i) H Q ∨ rEqB (BList (BTr K)) (n.val i) (m.val i) H Q := by
  rcases six_cases li with rfl | rfl | rfl | rfl | rfl | rfl
  · exact .inl ⟨_, bl_wr N.ha M.ha N.w M.w, q⟩
  · exact .inr (.inl ⟨_, bi_fl N.f M.f, q⟩)
  · exact .inr (.inr (.inl ⟨_, bl_ph N.hp M.hp N.p M.p, q⟩))
  · exact .inr (.inr (.inr (.inl (read_eqI (q H (Same.refl H))))))
  · exact .inr (.inr (.inr (.inl (read_eqI (q H (Same.refl H))))))
  · exact .inr (.inr (.inr (.inr ⟨_, bl_wy N.hw M.hw N.b M.b, q⟩)))
section
variable {P : Program} {w : World} {K : PySem.W.Frag} {mg : Str → Option Value} {base : Heap} {f c Pq : Addr} {A : Around} {outer : List Env} {s : Shared} {H0 : Hp} {E : XK} {pn : List (Addr × Obj)}
/-- six mixed ones -/
theorem seg14 (T : Txt K mg w) (fns : Fns K) {Tt : List (Addr × Str)} (TB : LamX.TabB base mg c Pq) (hm : ((Pq, nmL) : Addr × Str) ∈ Tt) (hu' : ∀ p ∈ Tt, p.1 = Pq → p.2 = nmL) (hr : Room 12 (LwCx P w K mg base f (.ref c) A outer s H0 E pn).A) : ∃ t, PS (LwCx P w K mg base f (.ref c) A outer s H0 E pn) (outB.getD 14 (.Pass ⟨0, 0, 0, 0⟩)) t ∧
    ∀ (D : Ends) (sc p r : Addr) (xs : List V) (m n : Six) (v1 v6 v7 v8 v9 v10 v11 v12 v13 v14 v15 v16 : Option V) (G : Hp), Tn K Tt sc p xs m n r G →
      (∀ (v9 v11 v14 : Option V) (G' : Hp), Tn K Tt sc p xs m n r G' → D.nx [some (.ref sc), v1, some (.ref p), some (.ref m.l), some (.ref n.l), some (.ref r), v6, v7, v8, v9, v10, v11, v12, v13, v14, v15, v16] G') →
      t D [some (.ref sc), v1, some (.ref p), some (.ref m.l), some (.ref n.l), some (.ref r), v6, v7, v8, v9, v10, v11, v12, v13, v14, v15, v16] G := by
  obtain ⟨fdM, FM⟩ := fns.f_l_made
  obtain ⟨fdY, FY⟩ := fns.f_l_said
  obtain ⟨fdE, FE⟩ := fns.f_Rollout_eq
  obtain ⟨fdF, FF⟩ := fns.f_Fill_eq
  obtain ⟨fdW, FW⟩ := fns.f_Writer_eq
  obtain ⟨fdP, FP⟩ := fns.f_Phase_eq
  have GM : FnOk P w K mg base (L2.CX P w) 7 (ga K "_law_made") fdM ["_law_parts_here"] (spMad K) := ok_mad FM T fns
  have FYk := FY.kp
  have b0 := bSaid FY
  have rm : ∀ {k : Nat}, k ≤ 12 → Room k (LwCx P w K mg base f (.ref c) A outer s H0 E pn).A := fun h => hr.mono h
  obtain ⟨oc, od, dV, kV, doc, pm, an, cdv, ct, osl, rfl, lk, hcd, _, _⟩ := FY.ex
  refine ⟨_, ps_for (X := (LwCx P w K mg base f (.ref c) A outer s H0 E pn)) PassesOwn.never rfl (pi_range1 (by rfl) T.g_range (pa_cons pe_int pa_nil)) (pg_name (i := 9) scLaw.nd rfl (Or.inl rfl))
   (pss_cons (ps_set (X := (LwCx P w K mg base f (.ref c) A outer s H0 E pn)) (i := 14) scLaw.nd rfl (Or.inr rfl) (pe_op op_catR (pe_op op_catR (pe_slice sl_list (pv 3) po_none (po_some (pv 9))) (pe_lst (pa_cons (pe_ix ix_list (pv 4) (pv 9) (fun _ _ => rfl)) pa_nil))) (pe_slice sl_list (pv 3) (po_some (pe_op op_add (pv 9) pe_int)) po_none)))
    (pss_cons (ps_set (i := 11) scLaw.nd rfl (Or.inl rfl) (LamX.pe_lamcall (X := (LwCx P w K mg base f (.ref c) A outer s H0 E pn)) (T := Tt) (TT := LamX.TTmix K 2 (clauses K) "told") (k := 7) (t := fun E => tCall (spMad K) [] E (tCons (tVar 14) tNil)) (by rfl) T.m_l_said FYk lk hcd b0 scSaid rfl (Or.inl rfl)
        (gives (X := (LwCx P w K mg base f (.ref c) A outer s H0 E pn)) T) TB rfl hm hu' (rm (by decide))
        (show LamX.LamS (defScope sLaw) _ from LamX.lamS_by (by decide +kernel)) rfl (fun _ _ _ _ _ => rfl)
        (fun A outer s H E f c' hr => pe_call GM hr (by rfl) T.m_l_made FM.kp (bMad FM) .nil lam_pass (pa_cons (pv 14) pa_nil))))
    (pss_one (ps_if (PW.pt (pw_and (pt_cmpR op_eq (pe_ix ix_tup (pv 11) pe_int (fun _ _ => rfl)) pe_str (nomark _)) (pw_and1 (pt_cmpR op_ne
        (pe_cmpR (op_eqB (X := (LwCx P w K mg base f (.ref c) A outer s H0 E pn)) (rcB_ins (ok_roE FE T FF FW FP) T.h_Rollout_eq.at_ T.h_Rollout_eq.fn (bRoE FE) pass0) (rm (by decide))) (pe_ix ix_tup (pv 11) pe_int (fun _ _ => rfl)) (pv 5) (nomark _))
        (pe_cmpR (op_alt (op_eqB (X := (LwCx P w K mg base f (.ref c) A outer s H0 E pn)) (rcB_list (monB_ins WrR.ext) (eqB_wr T FW)) (rm (by decide))) (op_alt (op_eqB (X := (LwCx P w K mg base f (.ref c) A outer s H0 E pn)) (rcB_ins (ok_flE FF T) T.h_Fill_eq.at_ T.h_Fill_eq.fn (bFlE FF) pass0) (rm (by decide)))
            (op_alt (op_eqB (X := (LwCx P w K mg base f (.ref c) A outer s H0 E pn)) (rcB_list (monB_ins PhR.ext) (eqB_ph T FP)) (rm (by decide))) (op_alt op_eq (op_eqB (X := (LwCx P w K mg base f (.ref c) A outer s H0 E pn)) (rcB_list monB_tr eqB_tr) (rm (by decide)))))))
          (pe_ix ix_list (pv 4) (pv 9) (fun _ _ => rfl)) (pe_ix ix_list (pv 3) (pv 9) (fun _ _ => rfl)) (nomark _)) (nomark _)))))
      (pss_one (ps_ret pe_bl)) pss_nil)))), fun D sc p r xs m n v1 v6 v7 v8 v9 v10 v11 v12 v13 v14 v15 v16 G M k => ?_⟩
  have big : 1000 < sizeLine := by decide
  refine ⟨(6 : Int), rfl, by decide, by decide, ?_⟩
  refine for_range (lo := 0) (n := 6) (fun i σ G => ∃ v9 v11 v14 : Option V, σ = [some (.ref sc), v1, some (.ref p), some (.ref m.l), some (.ref n.l), some (.ref r), v6, v7, v8, v9, v10, v11, v12, v13, v14, v15, v16] ∧ Tn K Tt sc p xs m n r G) ⟨_, _, _, rfl, M⟩ (fun i σ G li g => ?_) (fun σ G g => ?_)
  · obtain ⟨v9, v11, v14, rfl, M⟩ := g
    rw [Int.zero_add]
    have hl : G m.l = some (.lst m.vals) := M.pm.hl
    have hl2 : G n.l = some (.lst n.vals) := M.pn.hl
    have len1 : m.vals.length = 6 := rfl
    refine ⟨_, rfl, _, rfl, _, rfl, m.l, _, rfl, SqL.of hl, fun u1 m1 => ?_⟩
    rw [cut_take (by omega)]
    have Z1 := Same.new (o := .lst (m.vals.take i)) m1
    have h1 := upd_same (H := G) (a := u1) (o := .lst (m.vals.take i))
    generalize upd G u1 (.lst (m.vals.take i)) = G8 at Z1 h1 ⊢
    refine ⟨_, rfl, _, rfl, n.l, _, (i : Nat), n.val i, rfl, rfl, SqL.of (Z1 _ _ hl2), atI_nat (n.get li), (show 1 ≤ sizeLine by decide), fun u2 m2 => ?_⟩
    have Z2 := Same.new (o := .lst [n.val i]) m2
    have h2 := upd_same (H := G8) (a := u2) (o := .lst [n.val i])
    have h1' := Z2 _ _ h1
    generalize upd G8 u2 (.lst [n.val i]) = G9 at Z2 h2 h1' ⊢
    refine ⟨u1, u2, _, [n.val i], rfl, rfl, SqL.of h1', SqL.of h2, ?_, fun u3 m3 => ?_⟩
    · rw [List.length_take]
      simp only [List.length_cons, List.length_nil]
      omega
    have Z3 := Same.new (o := .lst (m.vals.take i ++ [n.val i])) m3
    have h3 := upd_same (H := G9) (a := u3) (o := .lst (m.vals.take i ++ [n.val i]))
    generalize upd G9 u3 (.lst (m.vals.take i ++ [n.val i])) = G10 at Z3 h3 ⊢
    refine ⟨_, rfl, _, rfl, _, _, rfl, rfl, _, rfl, m.l, _, rfl, SqL.of (Z3 _ _ (Z2 _ _ (Z1 _ _ hl))), fun u4 m4 => ?_⟩
    rw [show ((i : Nat) : Int) + 1 = ((i + 1 : Nat) : Int) by omega, cut_dropN (by omega)]
    have Z4 := Same.new (o := .lst (m.vals.drop (i + 1))) m4
    have h4 := upd_same (H := G10) (a := u4) (o := .lst (m.vals.drop (i + 1)))
    have h3' := Z4 _ _ h3
    generalize upd G10 u4 (.lst (m.vals.drop (i + 1))) = G11 at Z4 h4 h3' ⊢
    refine ⟨u3, u4, _, _, rfl, rfl, SqL.of h3', SqL.of h4, ?_, fun F3 m5 => ?_⟩
    · rw [List.length_append, List.length_take, List.length_drop]
      simp only [List.length_cons, List.length_nil]
      omega
    rw [Six.vals_mix m n li]
    have Z5 := Same.new (o := .lst (m.mix n i).vals) m5
    have h5 := upd_same (H := G11) (a := F3) (o := .lst (m.mix n i).vals)
    have ZZ := (((Z1.trans Z2).trans Z3).trans Z4).trans Z5
    have M12 := M.same ZZ
    have F3p : F3 ≠ p := ((((M.wl.same Z1).same Z2).same Z3).same Z4).new m5
    generalize upd G11 F3 (.lst (m.mix n i).vals) = G12 at h5 M12 ⊢
    clear Z1 Z2 Z3 Z4 Z5 h1 h1' h2 h3 h3' h4 m1 m2 m3 m4 m5 ZZ hl hl2 M k
    refine ⟨M12.tb, fun G13 ex tb13 => ?_⟩
    have M13 := M12.ext ex tb13
    have h6 : G13 F3 = some (.lst (m.mix n i).vals) := ex _ _ h5 (fun _ z => by cases z)
    have mx := (Six.At.is M13.pm).mix (Six.At.is M13.pn) li
    refine ⟨_, rfl, ?_⟩
    dsimp only [tNil]
    refine told_mad T h6 mx.bt (fun u i' e G14 q S hq => ?_) (fun ws' ps' bs' fa' d' is ok e q G14 S ra hq => ?_)
    · have nt := bad_told e
      have M14 := M13.same S
      refine ⟨_, rfl, q, _, 0, _, rfl, rfl, SqT.of hq, rfl, rfl, _, rfl, ?_⟩
      rw [show decide (V.str u = V.str "told") = false by simp [nt]]
      exact iteF ⟨_, _, _, rfl, M14⟩
    · obtain ⟨rfl, rfl, rfl, rfl, rfl⟩ := Rd.uniq is
      have M14 := M13.same S
      have rx : RoX K G14 e (m.mix n i).ws (m.mix n i).ps (m.mix n i).bs (m.mix n i).fa (m.mix n i).d := ⟨ra, mx.w.same fun _ _ h => h.same S, mx.f.same S, mx.p.same fun _ _ h => h.same S, mx.b.same fun _ _ h => h.same S⟩
      refine ⟨_, rfl, q, _, 0, _, rfl, rfl, SqT.of hq, rfl, rfl, _, rfl, ?_⟩
      rw [show decide (V.str "told" = V.str "told") = true by simp]
      refine iteT ⟨_, rfl, q, _, 1, _, rfl, rfl, SqT.of hq, rfl, _, rfl, _, bi_ro rx M14.rx, fun G15 S15 => ?_⟩
      rw [same_mix (Six.At.is M14.pm) li]
      have M15 := M14.same S15
      refine ⟨_, rfl, _, rfl, n.l, _, (i : Nat), n.val i, rfl, rfl, SqL.of M15.pn.hl, atI_nat (n.get li), _, rfl, _, rfl, m.l, _, (i : Nat), m.val i, rfl, rfl, SqL.of M15.pm.hl, atI_nat (m.get li), read_alt M15.pm M15.pn li fun G16 S16 => ⟨rfl, _, rfl, ?_⟩⟩
      rw [show (!decide (V.bl (bitM m n i) = V.bl (bitM m n i))) = false by simp]
      exact iteF ⟨_, _, _, rfl, M15.same S16⟩
  · obtain ⟨v9, v11, v14, rfl, M⟩ := g
    exact k _ _ _ _ M
end
end K09

set_option maxRecDepth 100000
set_option maxHeartbeats 4000000
namespace K09
open PySem PySem.Spec PyProof.Rows L2 He VH RZ
open LamX (Fx)
/-! the plain Rollout -/
section
variable {K : PySem.W.Frag} {fd : FuncData}
/-- Rollout(a, b, c) -/
theorem kRoD (F : FnRoI K fd) : ∃ mv : List Value, KBn K fd pRoI 4 [] (fun us ws => us ++ (mv ++ ws)) (fun vs zs => vs ++ ((kwR K).map (·.2) ++ zs)) :=
  FunD.kbinds0 F 4 [] (kwR K) (fun us its ws => us ++ (its ++ ws)) (by simp [kwR]) (fun q hq => hq) (fun a d b => a.append (d.append b))
    fun D doc pm an cdv ct us mv ws l1 l2 l3 => match us, mv, ws, l1, l2, l3 with
      | [_, _, _, _], [_, _, _], [], _, _, _ => ⟨_, _, _, _, _, _, rfl, rfl, _, _, _, _, _, _, rfl, rfl, _, _, _, _, _, _, rfl, rfl, rfl⟩
/-- Fill(a) -/
theorem kFlD (F : FnFlI K fd) : ∃ mv : List Value, KBn K fd pFlI 2 [] (fun us ws => us ++ (mv ++ ws)) (fun vs zs => vs ++ (kwF.map (·.2) ++ zs)) :=
  FunD.kbinds0 F 2 [] kwF (fun us its ws => us ++ (its ++ ws)) (by simp [kwF]) (fun q hq => hq) (fun a d b => a.append (d.append b))
    fun D doc pm an cdv ct us mv ws l1 l2 l3 => match us, mv, ws, l1, l2, l3 with
      | [_, _], [_, _, _, _, _, _], [], _, _, _ => ⟨_, _, _, _, _, _, rfl, rfl, _, _, _, _, _, _, rfl, rfl, _, _, _, _, _, _, rfl, rfl, _, _, _, _, _, _, rfl, rfl, _, _, _, _, _, _, rfl, rfl, _, _, _, _, _, _, rfl, rfl, rfl⟩
end
end K09

set_option maxRecDepth 100000
set_option maxHeartbeats 4000000
namespace K09
open PySem PySem.Spec PyProof.Rows L2 He VH RZ
open LamX (Fx)
/-! a Rollout is no other thing -/
def spRo0 (K : PySem.W.Frag) : Sp := fun vs H Q _ => ∃ (a : Addr) (y : V) (t : Value), vs = [.ref a, y] ∧ TyX K H y t ∧ PySem.W.kitOne K t (.ref (ga K "Rollout")) = some false ∧ Q (.bl false) H
section
variable {P : Program} {w : World} {K : PySem.W.Frag} {mg : Str → Option Value} {base : Heap} {f : Addr} {fd fdF fdW fdP : FuncData}
theorem ok_ro0 (F : FnM K "__eq__" "Rollout.__eq__" 45 2 f fd) (T : Txt K mg w) (FF : FnFlE K fdF) (FW : FnWrE K fdW) (FP : FnPhE K fdP) : FnOk P w K mg base CX0 3 f fd ["self", "other"] (spRo0 K) := by
  have GF : FnOk P w K mg base CX0 2 (ma K (ga K "Fill") "__eq__") fdF ["self", "other"] (spEqB (FlR K)) := ok_flE FF T
  refine F.ok scRoE (fun vs H Q E h => ?_) (fun cdv A outer s H vs Q E hr h => ?_)
  · obtain ⟨_, _, _, rfl, _⟩ := h
    rfl
  refine ⟨_, PSs.nox (pss_one (ps_ret (pe_and (pe_callB call_isi (by rfl) T.g_isinstance boot_isinstance (pa_cons (pv 1) (pa_cons (pe_glob (v := .ref (ga K "Rollout")) (by rfl) T.m_Rollout rfl) pa_nil)))
    (pe_and (pe_cmpR (op_eqB (rcB_tup (monB_ins WrR.ext) (eqB_wr T FW)) (hr.mono (by decide))) (pe_fld (pv 0) (by rfl)) (pe_fld (pv 1) (by rfl)) (nomark _))
    (pe_and (pe_cmpR (op_eqB (rcB_ins GF T.h_Fill_eq.at_ T.h_Fill_eq.fn (bFlE FF) pass0) (hr.mono (by decide))) (pe_fld (pv 0) (by rfl)) (pe_fld (pv 1) (by rfl)) (nomark _))
    (pe_and (pe_cmpR (op_eqB (rcB_tup (monB_ins PhR.ext) (eqB_ph T FP)) (hr.mono (by decide))) (pe_fld (pv 0) (by rfl)) (pe_fld (pv 1) (by rfl)) (nomark _))
    (pe_and (pe_cmpR op_eq (pe_fld (pv 0) (by rfl)) (pe_fld (pv 1) (by rfl)) (nomark _))
    (pe_and (pe_cmpR op_eq (pe_fld (pv 0) (by rfl)) (pe_fld (pv 1) (by rfl)) (nomark _))
    (pe_one (pe_cmpR (op_eqB (rcB_tup monB_tr eqB_tr) (hr.mono (by decide))) (pe_fld (pv 0) (by rfl)) (pe_fld (pv 1) (by rfl)) (nomark _))))))))))), ?_⟩
  obtain ⟨a, y, t, rfl, ty, k, q⟩ := h
  exact ⟨_, rfl, _, _, t, _, false, rfl, .own (ga K "Rollout"), ty, k, false, rfl, iteF q⟩
end
section
variable {X : Cx} {fd fdF fdW fdP : FuncData}
theorem op_eqRo0 (T : Txt X.K X.mg X.w) (F : FnRoE X.K fd) (FF : FnFlE X.K fdF) (FW : FnWrE X.K fdW) (FP : FnPhE X.K fdP) (hr : Room 3 X.A) : OpR X (compareOp .Eq) (rOwnA X.K (ga X.K "Rollout") (spRo0 X.K) E0 X) :=
  op_ownA (fun _ _ => rfl) T.h_Rollout_eq.at_ T.h_Rollout_eq.fn (raw0 (ok_ro0 F T FF FW FP) (bRoE F)) hr pass0
/-- Rollout == z -/
theorem read_eqRo0 (T : Txt X.K X.mg X.w) {H : Hp} {a dx : Addr} {fs : List (Str × V)} {z : Str} {Q : VK} (ha : H a = some (.ins (ga X.K "Rollout") dx fs)) (q : Q (.bl false) H) : rOwnA X.K (ga X.K "Rollout") (spRo0 X.K) E0 X (.ref a) (.str z) H Q := by
  refine ⟨a, _, rfl, .inr ⟨dx, fs, ha⟩, .base (.str z), ?_, a, _, _, rfl, .base (.str z), (T.o_Rollout.kt "str" (by simp)).1, q⟩
  unfold PySem.W.notFirst
  rw [(T.o_Rollout.kt "str" (by simp)).2]
  simp
end
end K09

set_option maxRecDepth 100000
set_option maxHeartbeats 4000000
namespace K09
open PySem PySem.Spec PyProof.Rows L2 He VH RZ
open LamX (Fx)
section
variable {P : Program} {w : World} {K : PySem.W.Frag} {mg : Str → Option Value} {base : Heap} {f c Pz : Addr} {A : Around} {outer : List Env} {s : Shared} {H0 : Hp} {E : XK} {pn : List (Addr × Obj)}
theorem segE (T : Txt K mg w) (fns : Fns K) (hr : Room 12 (LwCx P w K mg base f (.ref c) A outer s H0 E pn).A) : ∃ t, PSs (LwCx P w K mg base f (.ref c) A outer s H0 E pn) ((defBody sLaw).drop 1) t ∧ ∀ (D : Ends) (v0 v1 v2 v3 v4 v5 v6 v7 v8 v9 v10 v11 v12 v13 v14 v15 v16 : Option V) (G : Hp), (∀ G', D.rt (.bl true) G') → t D [v0, v1, v2, v3, v4, v5, v6, v7, v8, v9, v10, v11, v12, v13, v14, v15, v16] G := by
  obtain ⟨fdI, FI⟩ := fns.f_Writer_init
  obtain ⟨fdJ, FJ⟩ := fns.f_Phase_init
  obtain ⟨fdK, FK⟩ := fns.f_Fill_init
  obtain ⟨fdR, FR⟩ := fns.f_Rollout_init
  obtain ⟨fdE, FE⟩ := fns.f_Rollout_eq
  obtain ⟨fdF, FF⟩ := fns.f_Fill_eq
  obtain ⟨fdW, FW⟩ := fns.f_Writer_eq
  obtain ⟨fdP, FP⟩ := fns.f_Phase_eq
  obtain ⟨mv1, kC⟩ := kPhC FJ
  obtain ⟨mv2, kF⟩ := kFlD FK
  obtain ⟨mv3, kR⟩ := kRoD FR
  have GJ : FnOk P w K mg base (L2.CX P w) 3 (ma K (ga K "Phase") "__init__") fdJ nPhI (spPhI K) := ok_phI FJ T fns
  have GI : FnR P w K mg base (L2.CX P w) 7 (ma K (ga K "Writer") "__init__") (spWr K) := ok_wri FI T (pdefs fns) fns
  have GR : FnOk P w K mg base (L2.CX P w) 5 (ma K (ga K "Rollout") "__init__") fdR pRoI (spRoI K) := ok_roI FR T fns
  have GK := ok_flI (P := P) (w := w) (base := base) FK T fns
  have rm : ∀ {k : Nat}, k ≤ 12 → Room k (LwCx P w K mg base f (.ref c) A outer s H0 E pn).A := fun h => hr.mono h
  refine ⟨_, pss_cons (ps_set (X := LwCx P w K mg base f (.ref c) A outer s H0 E pn) (i := 13) scLaw.nd rfl (Or.inl rfl) (pe_makeK (n := 3) (ks := []) T.mk_Rollout GR (rm (by decide)) (by rfl) T.m_Rollout kR passN
      (pa_cons (pe_lst (pa_cons (StX.pe_makeR T.mk_Writer GI (rm (by decide)) (by rfl) T.m_Writer passN (pa_cons pe_str (pa_cons (pe_tup (pa_cons pe_str (pa_cons (pe_tup pa_nil) pa_nil))) pa_nil))) pa_nil))
      (pa_cons (pe_makeK (n := 1) (ks := []) T.mk_Fill GK (rm (by decide)) (by rfl) T.m_Fill kF passN (pa_cons (pe_tup (pa_cons pe_str (pa_cons pe_str (pa_cons (pe_tup pa_nil) pa_nil)))) pa_nil) pk_nil)
      (pa_cons (pe_tup (pa_cons (pe_makeK (n := 1) (ks := []) T.mk_Phase GJ (rm (by decide)) (by rfl) T.m_Phase kC passN (pa_cons pe_str pa_nil) pk_nil) pa_nil)) pa_nil))) pk_nil))
    (pss_one (ps_ret (pe_and (pe_cmpR (op_eqB (X := LwCx P w K mg base f (.ref c) A outer s H0 E pn) (rcB_tup monB_tr eqB_tr) (rm (by decide))) (pe_tup (pa_cons (pe_fld (pv 13) (by rfl)) (pa_cons (pe_fld (pv 13) (by rfl)) (pa_cons (pe_fld (pv 13) (by rfl)) pa_nil)))) (pe_tup (pa_cons pe_int (pa_cons pe_int (pa_cons (pe_tup pa_nil) pa_nil)))) (nomark _))
      (pe_one (pe_cmpR op_isBl (pe_cmpR (op_eqRo0 T FE FF FW FP (rm (by decide))) (pv 13) pe_str (nomark _)) pe_bl (nomark _)))))), fun D v0 v1 v2 v3 v4 v5 v6 v7 v8 v9 v10 v11 v12 v13 v14 v15 v16 G k => ?_⟩
  have big : 1000 < sizeLine := by decide
  refine ⟨(show 0 ≤ sizeLine by decide), fun e ne => ⟨(show 2 ≤ sizeLine by decide), fun g ng => ?_⟩⟩
  have S3 := Same.new (o := .tup []) ne
  have S4 := Same.new (o := .tup [.str "delete", .ref e]) ng
  have he := S4 _ _ (upd_same (H := G) (a := e) (o := .tup []))
  have hg := upd_same (H := upd G e (.tup [])) (a := g) (o := .tup [.str "delete", .ref e])
  generalize upd (upd G e (.tup [])) g (.tup [.str "delete", .ref e]) = H6 at he hg ⊢
  have sd : SdL K H6 [.ref g] [.st ⟨"delete", [], []⟩] := .cons ⟨g, rfl, by
    unfold StAt
    rw [if_neg (by decide)]
    exact ⟨e, hg, he⟩, by decide +kernel⟩ .nil
  refine mk_wrx (by decide) sd (Nat.le_refl 1) (show 1 ≤ 3 by decide) (by decide +kernel) fun y H7 ny s7 hy => ⟨rfl, ?_⟩
  refine ⟨(show 1 ≤ sizeLine by decide), fun L nL => ?_⟩
  have S8 := Same.new (o := .lst [.ref y]) nL
  have hL := upd_same (H := H7) (a := L) (o := .lst [.ref y])
  have hy8 := hy.same S8
  generalize upd H7 L (.lst [.ref y]) = H8 at hL hy8 ⊢
  refine ⟨(show 0 ≤ sizeLine by decide), fun e2 ne2 => ⟨(show 3 ≤ sizeLine by decide), fun g2 ng2 => ⟨rfl, rfl, fun x dx nx ndx ne => ?_⟩⟩⟩
  have Z1 := Same.new (o := .tup []) ne2
  have Z2 := Same.new (o := .tup [.str "put", .str "now", .ref e2]) ng2
  have ha2 := Z2 _ _ (upd_same (H := H8) (a := e2) (o := .tup []))
  have hb2 := upd_same (H := upd H8 e2 (.tup [])) (a := g2) (o := .tup [.str "put", .str "now", .ref e2])
  have hL2 := Z2 _ _ (Z1 _ _ hL)
  have hy2 := (hy8.same Z1).same Z2
  generalize upd (upd H8 e2 (.tup [])) g2 (.tup [.str "put", .str "now", .ref e2]) = H9 at ha2 hb2 hL2 hy2 nx ndx ⊢
  have st : StAt H9 g2 ⟨"put", ["now"], []⟩ := by
    unfold StAt
    rw [if_neg (show ¬ (("put" : Str) = "insert") by decide)]
    exact ⟨e2, hb2, ha2⟩
  have SI := same_ins (o := .own x) (o' := .ins (ga K "Fill") dx []) nx ndx ne
  refine ⟨x, dx, g2, ⟨"put", ["now"], []⟩, ⟨1, "last", false, false, false, false⟩, rfl, upd_same, st.same (fun b xs q => SI _ _ q), by decide +kernel, by decide +kernel, ⟨by decide, by decide, by simp⟩, fun H10 bt fl => ⟨rfl, ?_⟩⟩
  have SB := same_but SI nx bt
  have fk : FlK K H10 x := ⟨g2, _, _, fl, st.same fun b xs q => SB _ _ q⟩
  have hL3 := SB _ _ hL2
  have hy3 := hy2.same SB
  refine ⟨rfl, rfl, fun x2 dx2 nx2 nd2 ne3 => ?_⟩
  refine mk_phN (K := K) (mg := mg) (w := w) T (z := "b") (by decide) nx2 nd2 ne3 (fun H11 s2 h2 => ?_)
  refine ⟨rfl, ?_⟩
  refine ⟨(show 1 ≤ sizeLine by decide), fun t nt => ⟨rfl, rfl, fun r dr nr ndr ner => ?_⟩⟩
  have Z3 := Same.new (o := .tup [.ref x2]) nt
  have ht := upd_same (H := H11) (a := t) (o := .tup [.ref x2])
  have hL4 := Z3 _ _ (s2 _ _ hL3)
  have hy4 := (hy3.same s2).same Z3
  have fk4 := (fk.same s2).same Z3
  have h24 := h2.same Z3
  generalize upd H11 t (.tup [.ref x2]) = H12 at ht hL4 hy4 fk4 h24 nr ndr ⊢
  have SR := same_ins (o := .own r) (o' := .ins (ga K "Rollout") dr []) nr ndr ner
  obtain ⟨ap, ep, hp⟩ := h24.same SR
  refine ⟨r, dr, .ref L, .ref x, .ref t, .int 1, .int 1, .ref (kwA ("Rollout", some "__init__") "back" K), ⟨some ([.ref y], [some "a"]), some x, some ([.ref x2], [some ⟨"b", [], false, [], []⟩]), some 1, some 1, some ([], [])⟩, rfl, upd_same,
    ⟨⟨L, rfl, .inl (SqL.of (SR _ _ hL4)), Each.snoc (xs := []) (zs := []) ⟨rfl, fun i x e => by cases e⟩ (hy4.same SR).is, show 1 ≤ 1000 by decide⟩, ⟨rfl, fk4.same SR⟩,
      ⟨t, rfl, .inr (SqT.of (SR _ _ ht)), Each.snoc (xs := []) (zs := []) ⟨rfl, fun i x e => by cases e⟩ ⟨⟨ap, ep, hp⟩, show 0 ≤ 1000 by decide⟩, show 1 ≤ 1000 by decide⟩,
      fun H' _ => .inl ⟨1, rfl, rfl⟩, fun H' _ => .inl ⟨1, rfl, rfl⟩, ⟨_, rfl, .inr (T.k_Rollout_back _), ⟨rfl, fun i x e => by cases e⟩, show 0 ≤ 1000 by decide⟩⟩,
    fun u i e => ?_, fun ws ps bs fa d is ok H13 bt2 ra => ⟨rfl, ?_⟩⟩
  · have : (none : Option (Str × Int)) = some (u, i) := e
    cases this
  have e1 : d.wk = 1 := (Option.some.inj is.wk).symm
  have e2' : d.hd = 1 := (Option.some.inj is.hd).symm
  have e3 : bs = [] := (congrArg Prod.fst (Option.some.inj is.b)).symm
  subst e3
  obtain ⟨dz, t1, t2, t3, hr', q1, q2, q3⟩ := id ra
  refine ⟨_, rfl, r, _, dz, _, _, rfl, hr', T.c_Rollout, T.n_Rollout_workers, rfl, _, rfl, r, _, dz, _, _, rfl, hr', T.c_Rollout, T.n_Rollout_hands, rfl, _, rfl, r, _, dz, _, _, rfl, hr', T.c_Rollout, T.n_Rollout_back, rfl, (show 3 ≤ sizeLine by decide), fun p np => ?_⟩
  have Y1 := Same.new (o := .tup [.int d.wk, .int d.hd, .ref t3]) np
  have hp1 := upd_same (H := H13) (a := p) (o := .tup [.int d.wk, .int d.hd, .ref t3])
  generalize upd H13 p (.tup [.int d.wk, .int d.hd, .ref t3]) = H14 at Y1 hp1 ⊢
  refine ⟨(show 0 ≤ sizeLine by decide), fun e5 ne5 => ⟨(show 3 ≤ sizeLine by decide), fun q nq => ?_⟩⟩
  have Y2 := Same.new (o := .tup []) ne5
  have Y3 := Same.new (o := .tup [.int 1, .int 1, .ref e5]) nq
  have he5 := Y3 _ _ (upd_same (H := H14) (a := e5) (o := .tup []))
  have hq5 := upd_same (H := upd H14 e5 (.tup [])) (a := q) (o := .tup [.int 1, .int 1, .ref e5])
  have YY := (Y1.trans Y2).trans Y3
  have hp2 := Y3 _ _ (Y2 _ _ hp1)
  generalize upd (upd H14 e5 (.tup [])) q (.tup [.int 1, .int 1, .ref e5]) = H15 at he5 hq5 YY hp2 ⊢
  have q3' := q3.same YY
  rw [e1, e2'] at hp2
  refine ⟨true, ⟨p, q, _, _, [true, true, true], rfl, rfl, SqT.of hp2, SqT.of hq5, .cons ⟨.int 1, .int 1, .int, .int, rfl, by decide⟩ (.cons ⟨.int 1, .int 1, .int, .int, rfl, by decide⟩ (.cons ⟨.tup [], .tup [], .tup q3' .nil, .tup (SqT.of he5) .nil, rfl, by decide⟩ .nil)), rfl⟩, fun H16 S16 => ⟨true, rfl, iteT ?_⟩⟩
  refine ⟨_, rfl, read_eqRo0 (X := LwCx P w K mg base f (.ref c) A outer s H0 E pn) T (S16 _ _ (YY _ _ hr')) ?_⟩
  exact ⟨false, false, rfl, rfl, k _⟩
end
end K09

set_option maxRecDepth 100000
set_option maxHeartbeats 4000000
namespace K09
open PySem PySem.Spec PyProof.Rows L2 He VH RZ
open LamX (Fx)
/-! the law -/
def spLaw (K : PySem.W.Frag) (Tt : List (Addr × Str)) : Sp := fun vs H Q _ => ∃ (a : Addr) (ns : List Int), vs = [.ref a] ∧ SqL K H a (ns.map V.int) ∧ ns.length ≤ 63 ∧ LamX.Tabs Tt H ∧ ∀ H', Q (.bl true) H'
section
variable {P : Program} {w : World} {K : PySem.W.Frag} {mg : Str → Option Value} {base : Heap} {c cR PL PR : Addr} {fd fdR : FuncData}
theorem ok_law (F : FnP K "law" sLaw (He.fAd K ("law", none)) fd) (FR : FnSr K fdR) (T : Txt K mg w) (fns : Fns K) (hc : He.codeOf K ("law", none) = c) (TB : LamX.TabB base mg c PL) (hcR : He.codeOf K ("_law_spoilt_right", none) = cR) (TBR : LamX.TabB base mg cR PR) (ne : PL ≠ PR)
    (mR : mg "_law_spoilt_right" = some (.ref (He.fAd K ("_law_spoilt_right", none)))) : FnOk P w K mg base CX0 13 (He.fAd K ("law", none)) fd ["_law_script"] (spLaw K (Tt9 PL PR)) := by
  have GR : FnOk P w K mg base CX0 11 (He.fAd K ("_law_spoilt_right", none)) fdR ["_law_well_here", "_law_parts_here"] (spSr K (Tt9 PL PR)) := ok_sr FR T fns hcR TBR hm2 (hu2 ne)
  refine okC F hc scLaw (fun vs H Q E h => ?_) (fun A outer s H vs Q E hr h => ?_)
  · obtain ⟨a, ns, rfl, _⟩ := h
    rfl
  obtain ⟨t3, p3, r3⟩ := seg3 (P := P) (w := w) (f := He.fAd K ("law", none)) (A := A) (outer := outer) (s := s) (H0 := H) (E := E) (pn := []) (Tt := Tt9 PL PR) T fns hr
  obtain ⟨t4, p4, r4⟩ := seg4 (P := P) (w := w) (f := He.fAd K ("law", none)) (A := A) (outer := outer) (s := s) (H0 := H) (E := E) (pn := []) (Tt := Tt9 PL PR) T fns hr
  obtain ⟨t5, p5, r5⟩ := seg5 (P := P) (w := w) (f := He.fAd K ("law", none)) (A := A) (outer := outer) (s := s) (H0 := H) (E := E) (pn := []) (Tt := Tt9 PL PR) T fns hr
  obtain ⟨t6, p6, r6⟩ := seg6 (P := P) (w := w) (f := He.fAd K ("law", none)) (A := A) (outer := outer) (s := s) (H0 := H) (E := E) (pn := []) (Tt := Tt9 PL PR) T fns hr
  obtain ⟨t7, p7, r7⟩ := seg7 (P := P) (w := w) (f := He.fAd K ("law", none)) (A := A) (outer := outer) (s := s) (H0 := H) (E := E) (pn := []) (Tt := Tt9 PL PR) T fns hr
  obtain ⟨t8, p8, r8⟩ := seg8 (P := P) (w := w) (f := He.fAd K ("law", none)) (A := A) (outer := outer) (s := s) (H0 := H) (E := E) (pn := []) (Tt := Tt9 PL PR) T fns hr
  obtain ⟨t9, p9, r9⟩ := seg9 (P := P) (w := w) (f := He.fAd K ("law", none)) (A := A) (outer := outer) (s := s) (H0 := H) (E := E) (pn := []) (Tt := Tt9 PL PR) T fns hr
  obtain ⟨t10, p10, r10⟩ := seg10 (P := P) (w := w) (f := He.fAd K ("law", none)) (A := A) (outer := outer) (s := s) (H0 := H) (E := E) (pn := []) (Tt := Tt9 PL PR) T fns hr
  obtain ⟨t11, p11, r11⟩ := seg11 (P := P) (w := w) (f := He.fAd K ("law", none)) (A := A) (outer := outer) (s := s) (H0 := H) (E := E) (pn := []) (Tt := Tt9 PL PR) T fns hr
  obtain ⟨t12, p12, r12⟩ := seg12 (P := P) (w := w) (f := He.fAd K ("law", none)) (A := A) (outer := outer) (s := s) (H0 := H) (E := E) (pn := []) (Tt := Tt9 PL PR) T fns hr
  obtain ⟨t13, p13, r13⟩ := seg13 (P := P) (w := w) (f := He.fAd K ("law", none)) (A := A) (outer := outer) (s := s) (H0 := H) (E := E) (pn := []) (Tt := Tt9 PL PR) T fns hr
  obtain ⟨t14, p14, r14⟩ := seg14 (P := P) (w := w) (f := He.fAd K ("law", none)) (A := A) (outer := outer) (s := s) (H0 := H) (E := E) (pn := []) (Tt := Tt9 PL PR) T fns TB hm1 (hu1 ne) hr
  obtain ⟨tS, pS, rS⟩ := segS (P := P) (w := w) (f := He.fAd K ("law", none)) (A := A) (outer := outer) (s := s) (H0 := H) (E := E) (pn := []) T FR GR mR hr
  obtain ⟨t0, p0, r0⟩ := seg0 (P := P) (w := w) (f := He.fAd K ("law", none)) (A := A) (outer := outer) (s := s) (H0 := H) (E := E) (pn := []) (Tt := Tt9 PL PR) T fns hr (pss_cons p3 (pss_cons p4 (pss_cons p5 (pss_cons p6 (pss_cons p7 (pss_cons p8 (pss_cons p9 (pss_cons p10 (pss_cons p11 (pss_cons p12 (pss_cons p13 (pss_cons p14 (pss_one pS)))))))))))))
  obtain ⟨tE, pE, rE⟩ := segE (P := P) (w := w) (f := He.fAd K ("law", none)) (A := A) (outer := outer) (s := s) (H0 := H) (E := E) (pn := []) T fns hr
  refine ⟨_, PSs.nox (pss_cons (ps_for (X := (LwCx P w K mg base (He.fAd K ("law", none)) (.ref c) A outer s H E [])) PassesOwn.never rfl (pi_range1 (by rfl) T.g_range (pa_cons (pe_op op_add (pe_callB call_len_seq (by rfl) T.g_len boot_len (pa_cons (pe_slice sl_list (pv 0) po_none (po_some pe_int)) pa_nil)) pe_int) pa_nil)) (pg_name (i := 1) scLaw.nd rfl (Or.inl rfl)) p0) pE), ?_⟩
  obtain ⟨sc, ns, rfl, ha, few, tb, k⟩ := h
  refine ⟨_, rfl, _, rfl, sc, _, rfl, ha, fun q nq => ?_⟩
  have lc : (cutV (ns.map V.int) none (some 6)).length ≤ 63 := by
    refine Nat.le_trans (cutV_length _ _ _) ?_
    rw [List.length_map]
    exact few
  have S0 := Same.new (o := .lst (cutV (ns.map V.int) none (some 6))) nq
  have hq := upd_same (H := H) (a := q) (o := .lst (cutV (ns.map V.int) none (some 6)))
  have ha0 := sqL_same' S0 ha
  have tb0 := tb.ext S0
  clear ha tb S0
  generalize cutV (ns.map V.int) none (some 6) = cs at lc hq ha0 tb0 ⊢
  refine ⟨q, cs, rfl, .inl (SqL.of hq), _, _, rfl, rfl, ((cs.length : Nat) : Int) + 1, rfl, by omega, by omega, ?_⟩
  clear hq
  generalize upd H q (.lst cs) = H1 at ha0 tb0 ⊢
  refine for_range (lo := 0) (n := (((cs.length : Nat) : Int) + 1).toNat) (fun i σ G => ∃ v1 v2 v3 v4 v5 v6 v7 v8 v9 v10 v11 v12 v13 v14 v15 v16 : Option V, σ = [some (.ref sc), v1, v2, v3, v4, v5, v6, v7, v8, v9, v10, v11, v12, v13, v14, v15, v16] ∧ SqL K G sc (ns.map V.int) ∧ LamX.Tabs (Tt9 PL PR) G)
    ⟨none, none, none, none, none, none, none, none, none, none, none, none, none, none, none, none, rfl, ha0, tb0⟩ (fun i σ G lt g => ?_) (fun σ G g => ?_)
  · obtain ⟨v1, v2, v3, v4, v5, v6, v7, v8, v9, v10, v11, v12, v13, v14, v15, v16, rfl, ha, tb⟩ := g
    rw [Int.zero_add]
    refine r0 _ sc ns i _ _ _ _ _ _ _ _ _ _ _ _ _ _ _ G ha few (by omega) tb fun p r m n G M => ?_
    refine r3 _ sc p r _ m n _ _ _ _ _ _ _ _ _ _ _ _ G M fun a6 v15 v16 G M h6 => ?_
    refine r4 _ sc p r a6 _ m n _ none _ _ _ _ _ _ _ _ _ _ G M h6 fun G M => ?_
    refine r5 _ sc p r _ m n _ _ _ _ _ _ _ _ _ _ _ _ G M fun G M => ?_
    refine r6 _ sc p r _ m n _ _ _ _ _ _ _ _ _ _ _ _ G M fun G M => ?_
    refine r7 _ sc p r _ m n _ _ _ _ _ _ _ _ _ _ _ _ G M fun G M => ?_
    refine r8 _ sc p r _ m n _ _ _ _ _ _ _ _ _ _ _ _ G M fun G M => ?_
    refine r9 _ sc p r _ m n _ _ _ _ _ _ _ _ _ _ _ _ G M fun q b0 b2 b5 G M Z => ?_
    refine r10 _ sc p r q b0 b2 b5 _ m n _ _ none _ _ _ _ _ _ _ _ _ G M Z fun e G M Z re => ?_
    refine r11 _ sc p r q b0 b2 b5 e _ m n _ _ none none _ _ _ _ _ _ _ _ G M Z re fun v9 G M re => ?_
    refine r12 _ sc p r e _ m n _ _ _ none _ _ _ _ _ _ _ _ G M re fun a10 x y z G M re h10 => ?_
    refine r13 _ sc p r e a10 x y z _ m n _ _ _ none _ none _ _ _ _ _ _ G M re h10 fun v15 G M => ?_
    refine r14 _ sc p r _ m n _ _ _ _ _ _ _ _ _ _ _ _ G M fun v9 v11 v14 G M => ?_
    refine rS _ sc p m.l m.la m.fa m.lp m.lw m.ws m.ps m.bs m.d _ _ _ _ _ _ _ _ _ _ _ _ _ _ G M.wl M.tb M.pm fun v12 G' w' t' b' => ?_
    have M' := M.bx b' w' t'
    exact ⟨_, _, _, _, _, _, _, _, _, _, _, _, _, _, _, _, rfl, M'.sq, M'.tb⟩
  · obtain ⟨v1, v2, v3, v4, v5, v6, v7, v8, v9, v10, v11, v12, v13, v14, v15, v16, rfl, ha, tb⟩ := g
    exact rE _ _ _ _ _ _ _ _ _ _ _ _ _ _ _ _ _ _ G fun G' => k G'
end
end K09

set_option maxRecDepth 100000
set_option maxHeartbeats 0
namespace K09
open PySem PySem.Spec PyProof.Rows L2 He VH
theorem facts {w : World} {K : PySem.W.Frag} {h : Heap} {mg : Str → Option Value} {f : Addr} (X : K.In h) (G : h.Ns mainGlobals mg) (hfa : mg ("law" : Str) = some (.ref f)) (c : He.SaysX fa fn ts tf ex w h K) :
    LamX.LawAtS PySem.Challenge.rw_fillbehind_k09_rollouts w K L2.CX0 13 63 "_law_script" mg f h := by
  have T := txt_of X G c
  have g : SaysD fa fn K := c.t.d
  have fns := fns_of g
  obtain ⟨fd, F⟩ := g.def_ 38 (d := dd 74 "law") rfl
  obtain ⟨fdR, FR⟩ := g.def_ 37 (d := dd 73 "_law_spoilt_right") rfl
  have e := hfa.symm.trans (glo_ok X G (g.fact 39 (f := .glo "law") rfl))
  cases e
  have b := FunD.bindsA (ps := ["_law_script"]) F fun _ _ _ _ _ _ us hl => match us, hl with | [_], _ => rfl
  have memL : (("law", none) : He.Defn) ∈ tf := List.mem_cons_self ..
  have memR : (("_law_spoilt_right", none) : He.Defn) ∈ tf := List.mem_cons_of_mem _ (List.mem_cons_self ..)
  have two : ∀ p ∈ [He.cT K ("law", none), He.cT K ("_law_spoilt_right", none)], ∃ d ∈ tf, p = He.cT K d := fun p hp => by
    simp only [List.mem_cons, List.not_mem_nil, or_false] at hp
    rcases hp with rfl | rfl
    · exact ⟨_, memL, rfl⟩
    · exact ⟨_, memR, rfl⟩
  refine ⟨fd, [He.cT K ("law", none), He.cT K ("_law_spoilt_right", none)], spLaw K (Tt9 (He.cT K ("law", none)).2 (He.cT K ("_law_spoilt_right", none)).2), fun p hp => ?_, fun p hp => ?_, fun p hp => ?_, fun s v => b s [v] rfl, fun H a ns hl _ hT hS => ?_, fun base hb hg hTB => ?_⟩
  · obtain ⟨d, m, rfl⟩ := two p hp
    exact c.empty _ m
  · obtain ⟨d, m, rfl⟩ := two p hp
    exact c.out _ m
  · obtain ⟨d, m, rfl⟩ := two p hp
    exact PySem.W.codeHd_of_K X (c.hd _ m)
  · refine ⟨a, ns, rfl, hS, hl, fun p hp => ?_, fun _ => rfl⟩
    simp only [List.mem_cons, List.not_mem_nil, or_false] at hp
    rcases hp with rfl | rfl
    · exact LamX.TabS.nil (hT _ (List.mem_cons_self ..))
    · exact LamX.TabS.nil (hT _ (List.mem_cons_of_mem _ (List.mem_cons_self ..)))
  · exact ok_law F FR T fns rfl (hTB _ (List.mem_cons_self ..)) rfl (hTB _ (List.mem_cons_of_mem _ (List.mem_cons_self ..))) T.tne T.m_l_spoilt_right
end K09
open PySem PySem.W PySem.Calls PyProof.Rows
theorem PySem.Challenge.cw_fillbehind_k09_rollouts_holds : PySem.Challenge.rw_fillbehind_k09_rollouts.Holds := by
  w_on; o_law
  refine HandSHeadRun.head_any (r := OpenLaw.row PySem.Challenge.rw_fillbehind_k09_rollouts) (q := view (OpenLaw.row PySem.Challenge.rw_fillbehind_k09_rollouts).prog [74]) (H := K09.hk) (ob := K09.ob) (M := 20000) (loose := K09.names) (d := HandSHeadRun.topDef (OpenLaw.row PySem.Challenge.rw_fillbehind_k09_rollouts).prog 74) (kwd := []) K09.ob_eq
    (by kernel_rfl) (fun s => by kernel_rfl) K09.run (by kernel_rfl) (by kernel_rfl) (by kernel_rfl) (by rfl) (by first | assumption | decide +kernel) (by decide +kernel) ⟨rfl, rfl, rfl, rfl, rfl, by decide +kernel⟩ ?hw ?hc
  case hw => w_witness2
  case hc =>
    refine LamX.walk_ofTsE (l := PySem.Challenge.rw_fillbehind_k09_rollouts) (n := 63) (k := 13) (x := "_law_script") (CX := fun _ => L2.CX0) rfl (by decide) (by kernel_rfl) ⟨rfl, by decide, by decide⟩ ?F (fun _ _ _ _ _ z => z)
    intro w mg fa h Y G hmg0
    obtain ⟨K, KX, c⟩ := Y
    have hmg : mg ("law" : PySem.Str) = some (.ref fa) := by
      have e : (HandSHeadRun.topDef (OpenLaw.row PySem.Challenge.rw_fillbehind_k09_rollouts).prog 74).name = ("law" : PySem.Str) := by kernel_rfl
      rw [← e]
      exact hmg0
    exact ⟨K, KX, K09.facts KX G hmg c⟩
