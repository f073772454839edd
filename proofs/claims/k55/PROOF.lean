import PyProof.Rows.All
import Wide.All
import OpenK.AllK
import Wide.FinOn
import KE.KStateDown
import HandS.HeadHook2
import HandS.Head0
import HandS.Head1
import HandS.Head2
import HandS.HeadEnd
import HandS.ExcInit
import HandS.ExcIs
import HandS.ExcField
import HandS.MakeKw
import HandS.Words
import HandS.Defaults
import HandS.HeadHook4
import Open.Seg
import PyProof.TupleKey
import PyProof.FactsAll.str
import PyProof.ByEvalTree
import PyProof.DictKinds
import PyProof.DictFindH
import HandS.HeadWalk
import HandS.NestedK
import HandS.OwnEq
import HandS.Star
import HandS.SlotsOwn
import HandS.More
import HandS.IsInst
import HandS.ForMost
import HandS.Wide
import HandS.Walk
import HandS.Strs
import HandS.Text
import HandS.Conv
import HandS.DictEq
import PyProof.EqKinds
import HandS.Zip
import HandS.TupAny
import HandS.MakeKwOnly
import KE.GoesEnum
import HandS.Iter
import HandS.TryMany
import HandS.Lambda
import KE.KDflt
import PyProof.NeKinds
import HandS.Style
import PySem.Challenge.RW_fillbehind_k55_what_sights_refuse
set_option Elab.async false
set_option linter.all false
set_option maxRecDepth 100000
set_option maxHeartbeats 4000000
/-! An own exception class over ValueError (at any depth), its object held as a value: made by place and by name. -/
namespace PySem.VX
open PySem PySem.Calls PyProof.Rows PySem.HandSPX
section
variable {M : Model} {A : Around} {E : Value → Shared → Prop} {h : Heap} {g : Array GenState} {d : Drawn} {t : Nat} {os : OsState}
variable {nm q : Str} {C N : Addr} {bs bm bmB : List Value} {hdct : Bool} {sn : List Str} {sub : List Value} {ab : Bool} {col : Option Bool} {dd : Option Addr} {k0 k1 k2 k3 k5 : Option Value} {B newId initId : String}

theorem look_new (F : ExcBaseFacts B newId initId bmB) (same : ∀ Y : String, bm.contains (.type Y) = bmB.contains (.type Y)) {ps : List Value} {kw : List (Str × Value)} {Q : Unit → Shared → Prop}
    (hC : h.get? C = some (excClassObj nm q C N bs bm hdct sn sub ab col dd k0 k1 k2 k3 k5 newId)) (go : Q () ⟨h, g, d, t, os⟩) :
    wpAny M A (checkBuiltinCall newId ⟨.ref C :: ps, kw⟩) Q E ⟨h, g, d, t, os⟩ := by
  have isB : (Value.ref C :: bm).contains (.type B) = true := by rw [List.contains_cons, same, F.hasB, Bool.or_true]
  have nost := F.noStar
  simp only [checkBuiltinCall, F.newKind, F.newSplit, F.newRow]
  repeat (first
    | refine wpAny_loadPart_at hC ?_
    | (refine wpAny_isSubtype_exc hC ?_; rw [isB])
    | refine wpAny_staticBase_exc hC ?_
    | refine wpAny_madeBy_exc hC ?_
    | simp only [bne_self_eq_false, Bool.false_eq_true, if_false]
    | wp_step)
  exact go
end

section
variable {prog : Program} {w : World} {A : Around} {E : Value → Shared → Prop} {R : Result → Shared → Prop} {h : Heap} {g : Array GenState} {d : Drawn} {t : Nat} {os : OsState}
variable {nm q : Str} {C N : Addr} {bs bm bmB : List Value} {hdct : Bool} {sn : List Str} {sub : List Value} {ab : Bool} {col : Option Bool} {dd : Option Addr} {k0 k1 k2 k3 k5 : Option Value} {B newId initId : String}
/-- the heap behind BaseException.__new__ -/
abbrev newH (h : Heap) (C : Addr) (ps : List Value) : Heap := (h.push (PySem.W.kdv_tup ps)).push (excO C h.objs.size)

theorem is_new (F : ExcBaseFacts B newId initId bmB) (same : ∀ Y : String, bm.contains (.type Y) = bmB.contains (.type Y)) {ps : List Value} {kw : List (Str × Value)}
    (hC : h.get? C = some (excClassObj nm q C N bs bm hdct sn sub ab col dd k0 k1 k2 k3 k5 newId)) (few : ps.length ≤ sizeLine)
    (go : R (.ok (.ret (.ref (h.objs.size + 1)))) ⟨newH h C ps, g, d, t, os⟩) :
    codeAny (model prog w) A (.builtin newId ⟨.ref C :: ps, kw⟩) R ⟨h, g, d, t, os⟩ := by
  have isB : (Value.ref C :: bm).contains (.type B) = true := by rw [List.contains_cons, same, F.hasB, Bool.or_true]
  have noA : (Value.ref C :: bm).contains (.type "AttributeError") = false := by rw [List.contains_cons, same, F.noAttr]; rfl
  have noN : (Value.ref C :: bm).contains (.type "NameError") = false := by rw [List.contains_cons, same, F.noName]; rfl
  have en := F.ends
  refine codeAny_builtinAt F.entry ?_
  unfold Builtin.«BaseException.__new__»
  refine wpAt_bind ?_
  show wpAt _ _ _ (stack >>= _) _ _ _
  refine wpAt_bind (wpAt_stack fun p under => wpAt_of_wpAny ?_)
  wp_walk
  refine wpAt_of_wpAny ?_
  rw [F.owner]
  repeat (first
    | with_reducible refine wpAny_madeHere_exc F.canon hC ?_
    | with_reducible refine wpAny_loadPart_at hC ?_
    | (with_reducible refine wpAny_isSubtype_exc hC ?_; first | rw [isB] | rw [noA] | rw [noN])
    | wp_step)
  show R _ _
  rw [Heap.size_push]
  exact go

theorem is_call (F : ExcBaseFacts B newId initId bmB) (same : ∀ Y : String, bm.contains (.type Y) = bmB.contains (.type Y)) {ps : List Value} {kw : List (Str × Value)} {fI : Addr} {Q : Fin → Shared → Prop}
    (hC : h.get? C = some (excClassObj nm q C N bs bm hdct sn sub ab col dd k0 k1 k2 k3 k5 newId)) (few : ps.length ≤ sizeLine)
    (ini : W.Looks (model prog w) h (typeLookup (.ref C) "__init__") (some (.ref fI))) (bnd : ∀ o, W.Looks (model prog w) h (bindSpecial (.ref fI) o) (.ref fI, [o]))
    (go : codeAny (model prog w) A (.call (.ref fI) ⟨.ref (h.objs.size + 1) :: ps, kw⟩)
      (fun r s' => match r with | .ok (.ret v) => v = .none ∧ Q (.done (.ret (.ref (h.objs.size + 1)))) s' | .ok _ => False | .error e => E e s') ⟨newH h C ps, g, d, t, os⟩) :
    wpAny (model prog w) A (Builtin.«type.__call__» ⟨.ref C :: ps, kw⟩) Q E ⟨h, g, d, t, os⟩ := by
  repeat (first
    | with_reducible refine wpAny_loadPart_at hC ?_
    | with_reducible refine wpAny_madeBy_exc hC ?_
    | wp_step)
  refine codeAny_call_builtin_code (Code.quiet_builtin _ F.quiet) (look_new F same hC ?_)
  refine is_new F same hC few ?_
  show wpAny _ _ _ _ _ _
  have keeps : ∀ b o, h.get? b = some o → (newH h C ps).get? b = some o := fun b o e => Heap.get?_push_of_some _ (Heap.get?_push_of_some _ e)
  have hC2 := keeps _ _ hC
  have at_e : (newH h C ps).get? (h.objs.size + 1) = some (excO C h.objs.size) := by heap_get
  have itself : (Value.ref C :: bm).contains (.ref C) = true := by simp
  have ini2 := ini.keeps keeps
  have bnd2 := (bnd (.ref (h.objs.size + 1))).keeps keeps
  unfold isInstance
  repeat (first
    | with_reducible refine wpAny_loadPart_at at_e ?_
    | (with_reducible refine wpAny_isSubtype_exc hC2 ?_; rw [itself])
    | wp_step)
  show wpAny _ _ (typeLookup (.ref C) _) _ _ _
  refine ini2.at ?_
  refine wpAny_holding (wpAny_bind (bnd2.at ?_))
  refine wpAny_bind (wpAny_call (codeAny_mono go fun r s' z => ?_))
  rcases r with e | (v | _ | _ | _) <;> first | exact z | exact z.elim | skip
  obtain ⟨rfl, z2⟩ := z
  first
    | exact wpAny_pure (wpAny_pure z2)
    | (wp_walk; exact z2)

theorem look_call {M : Model} {E : Value → Shared → Prop} {ps : List Value} {kw : List (Str × Value)} {Q : Unit → Shared → Prop} (hC : h.get? C = some (excClassObj nm q C N bs bm hdct sn sub ab col dd k0 k1 k2 k3 k5 newId)) (go : Q () ⟨h, g, d, t, os⟩) :
    wpAny M A (checkBuiltinCall "type.__call__" ⟨.ref C :: ps, kw⟩) Q E ⟨h, g, d, t, os⟩ := by
  have f := tc_sub
  have ty : (⟨h, g, d, t, os⟩ : Shared).TypeIs (.ref C) "type" := ⟨_, hC, rfl⟩
  simp only [checkBuiltinCall, tc_kind, tc_split]
  repeat (any_goals (first
    | assumption
    | with_reducible refine wpAny_loadPart_at hC ?_
    | with_reducible refine wpAny_onRaise ?_
    | with_reducible refine wpAny_map ?_
    | wp_step))

theorem call_it (F : ExcBaseFacts B newId initId bmB) (same : ∀ Y : String, bm.contains (.type Y) = bmB.contains (.type Y)) {ps : List Value} {kw : List (Str × Value)} {fI : Addr}
    (hC : h.get? C = some (excClassObj nm q C N bs bm hdct sn sub ab col dd k0 k1 k2 k3 k5 newId)) (few : ps.length ≤ sizeLine)
    (ini : W.Looks (model prog w) h (typeLookup (.ref C) "__init__") (some (.ref fI))) (bnd : ∀ o, W.Looks (model prog w) h (bindSpecial (.ref fI) o) (.ref fI, [o]))
    (go : codeAny (model prog w) (A.under (.builtin "type.__call__" ⟨.ref C :: ps, kw⟩)) (.call (.ref fI) ⟨.ref (h.objs.size + 1) :: ps, kw⟩) (W.InitBack (h.objs.size + 1) R) ⟨newH h C ps, g, d, t, os⟩) :
    codeAny (model prog w) A (.call (.ref C) ⟨ps, kw⟩) R ⟨h, g, d, t, os⟩ := by
  have f1 := tc_lookup
  have f2 := tc_bind (.ref C)
  have ty : (⟨h, g, d, t, os⟩ : Shared).TypeIs (.ref C) "type" := ⟨_, hC, rfl⟩
  refine codeAny_of_tree ?_
  show wpAny _ _ (callAny (.ref C) _) _ _ _
  repeat (any_goals (first
    | assumption
    | with_reducible refine wpAny_loadPart_at hC ?_
    | wp_step))
  refine ⟨rfl, ?_⟩
  refine codeAny_call_builtin_at (Code.quiet_builtin _ (by decide +kernel)) entry_typeCall (look_call hC (is_call F same hC few ini bnd ?_))
  refine codeAny_mono go fun r s' z => ?_
  rcases r with e | (v | _ | _ | _) <;> exact z
end
end PySem.VX

set_option maxRecDepth 100000
set_option maxHeartbeats 4000000
/-! isinstance of an own exception's object that has a dict, or none. -/
namespace PySem.W
open PySem PySem.Spec PySem.Calls PyProof.Rows
section
variable {prog : Program} {w : World} {A : Around} {E : Value → Shared → Prop} {s : Shared} {K : Frag} {x D : Addr} {ox : Obj} {od : Option Obj}
theorem vx_bound {C : Addr} {y : Str} {v gg : Value} (is : (clsIn K C).isSome = true) (f : findIn K (.ref C) y = some (some v)) (gt : specialIn K v "__get__" = some (some gg)) (tk : takesIn K v = some true) :
    findObj K C od y = some (.bind gg v) := by
  obtain ⟨cd, e⟩ := Option.isSome_iff_exists.mp is
  unfold findObj
  rw [e, Option.bind_some, f, Option.bind_some]
  simp [gt, tk]
theorem vx_class {Q : Option Value → Shared → Prop} (C : L2.ExcC K D) (X : K.In s.heap) (I : InstAt s.heap x ox D od) (go : Q (some (.ref D)) { s with toks := s.toks + 1 }) :
    wpAny (model prog w) A (getAttr? (.ref x) "__class__") Q E s := by
  have is : (clsIn K D).isSome = true := by
    obtain ⟨cd, hc, _⟩ := any_some C.hd
    rw [hc]; rfl
  have fo : findObj K D od "__class__" = some (.bind (.builtin "getset_descriptor.__get__") (.builtin "object.__class__")) := vx_bound is C.ha C.hn C.ht
  obtain ⟨hh, gs, dr, tk, os⟩ := s
  have T0 := I.type (M := model prog w)
  have T1 := looks_findIn (M := model prog w) X C.hg
  have T2 := looks_findIn (M := model prog w) X C.hk
  have T3 := looks_find (M := model prog w) X I fo
  have sub : Looks (model prog w) hh (isInstance (.ref x) (.type "BaseException")) true := T0.andThen (looks_subIn X C.hs)
  have n0 : (false && onTheHeap (Value.builtin "BaseException.__getattribute__")) = false := rfl
  have n2 : (Value.builtin "BaseException.__getattribute__" == Value.builtin "object.__getattribute__") = false := by decide +kernel
  have n1 : (onTheHeap (Value.ref D) && Value.builtin "BaseException.__getattribute__" == Value.builtin "object.__getattribute__") = false := by
    rw [n2]; rfl
  unfold getAttr? getAttrBy? getAttrBy
  refine wpAny_bind (wpAny_mkText (wpAny_bind (wpAny_attempt (wpAny_holding (wpAny_bind (T0.at (wpAny_bind (T1.at ?_))))))))
  show wpAny _ _ (if (onTheHeap (Value.ref D) && Value.builtin "BaseException.__getattribute__" == Value.builtin "object.__getattribute__") = true
    then _ else _) _ _ _
  rw [n1, if_neg Bool.false_ne_true]
  unfold getAttrByItsOwn hookBefore
  refine wpAny_bind ?_
  rw [if_pos (show onTheHeap (Value.ref D) = true from
    rfl)]
  refine T2.at ?_
  refine wpAny_bind (wpAny_attempt (wpAny_holding ?_))
  unfold callGetattribute
  rw [n0, if_neg Bool.false_ne_true]
  unfold boundAndCalled
  rw [PySem.F.excAttr_ValueError.ga.bind (Value.ref x)]
  refine wpAny_bind (wpAny_pure ?_)
  show wpAny _ _ (call (.builtin "BaseException.__getattribute__") [.ref x, .str "__class__" tk]) _ _ _
  refine wpAny_call (codeAny_call_builtin (PySem.F.excAttr_ValueError.ga.plain) PySem.F.entry_bexc_ga ?_)
  refine @check_slot (model prog w) _ _ ⟨hh, gs, dr, tk + 1, os⟩ "BaseException.__getattribute__" "BaseException" "__getattribute__" (.ref x) [.str "__class__" tk] [] _
    (by decide +kernel) (by decide +kernel) sub (PySem.F.args_bexc_ga (.ref x) (.str "__class__" tk)) ?_
  unfold Builtin.«object.__getattribute__»
  refine wpAny_bind (wpAny_of_eq (a := ((Value.ref x : Value), [Value.str "__class__" tk])) (by
    first | rfl | (simp only [slotArgs]; rfl)) ?_)
  refine wpAny_bind (wpAny_pure (wpAny_bind (T0.at (wpAny_bind (T3.at ?_)))))
  show wpAny _ _ (holding [Value.builtin "object.__class__"] (call (.builtin "getset_descriptor.__get__")
    [.builtin "object.__class__", .ref x, .ref D]) >>= ret) _ _ _
  refine wpAny_bind (wpAny_holding (wpAny_call (class_get (s := ⟨hh, gs, dr, tk + 1, os⟩) (ox := ox) (od := od) X I C.hm ?_)))
  refine wpAny_pure ?_
  show wpAny _ _ (handedOut (.ref D)) _ _ _
  rw [handedOut_of (v := Value.ref D) rfl]
  first
    | exact wpAny_pure (wpAny_pure go)
    | exact wpAny_pure go
theorem vx_kit (C : L2.ExcC K D) : KitX K (.ref x) (.ref D) (fun h => ∃ ox od, InstAt h x ox D od) where
  ty := fun _ _ _ ⟨_, _, I⟩ => I.type
  it := fun _ _ X _ => by
    obtain ⟨cd, hc, _⟩ := any_some C.hd
    unfold clsIn at hc
    split at hc
    · rename_i ho
      intro A' Q' E' s' k q
      unfold isType loadHead
      exact wpAny_bind (wpAny_loadPart (k _ _ (X _ _ ho))
        (wpAny_pure q))
    · cases hc
  ne := fun h tp dd its n sl X htp => by
    obtain ⟨cd, hc, _⟩ := any_some C.hd
    refine Bool.eq_false_iff.mpr fun same => ?_
    have e : D = tp := Value.ref.inj (beq_iff_eq.mp same)
    subst e
    unfold clsIn at hc
    split at hc
    · rename_i ho
      have z := (X _ _ ho).symm.trans htp
      cases z
    · cases hc
  ca := fun X ⟨_, _, I⟩ k => vx_class C X I k
end
end PySem.W

set_option maxRecDepth 100000
set_option maxHeartbeats 4000000
/-! An own exception's object as a value, over the layer: made, its fields read, asked for its class. -/
namespace L2
open PySem PySem.Spec PyProof.Rows

/-- at a: an exception of the class at C, these its fields -/
def IsEx (H : Hp) (a C : Addr) (fs : List (Str × V)) : Prop := (fs = [] ∧ H a = some (exo a C none)) ∨ ∃ dx, H a = some (exo a C (some dx)) ∧ H dx = some (exd dx fs)
theorem IsEx.same {H H' : Hp} {a C : Addr} {fs : List (Str × V)} (h : IsEx H a C fs) (e : Same H H') : IsEx H' a C fs := by
  rcases h with ⟨h1, h2⟩ | ⟨dx, h1, h2⟩
  · exact .inl ⟨h1, e _ _ h2⟩
  · exact .inr ⟨dx, e _ _ h1, e _ _ h2⟩
section
variable {X : Cx} {pins : List (Addr × Obj)} {σ : St} {H : Hp} {s : Shared} {a C : Addr} {fs : List (Str × V)}
theorem IsEx.inst (h : IsEx H a C fs) (I : Inv X pins σ H s) : ∃ ox od, PySem.W.InstAt s.heap a ox C od ∧ ∀ f v, fs.lookup f = some v → ∃ u o, od = some o ∧ PySem.W.lookIn f o = some (some u) ∧ RelV v u := by
  rcases h with ⟨rfl, h⟩ | ⟨dx, h, hd⟩
  · obtain ⟨t, e⟩ := exo_at I.hok h
    exact ⟨_, none, ⟨e, rfl, rfl, trivial⟩, fun f v z => by cases z⟩
  · obtain ⟨t, e⟩ := exo_at I.hok h
    obtain ⟨mA, ns, rel⟩ := exd_at I.hok hd
    obtain ⟨od, eo, lk⟩ := lookIn_ns ns
    refine ⟨_, some od, ⟨e, rfl, rfl, eo⟩, fun f v z => ?_⟩
    obtain ⟨u, eu, ru⟩ := RelO.some_of (v := v) (o := mA f) (by rw [← z]; exact rel f)
    exact ⟨u, od, rfl, by rw [lk, eu], ru⟩
/-- e.f -/
def tExF (K : PySem.W.Frag) (f : Str) (te : TE) : TE := fun σ H Q => te σ H fun x H1 => ∃ (a C : Addr) (fs : List (Str × V)) (v : V), x = .ref a ∧ XfC K C ∧ PySem.W.findIn K (.ref C) f = some none ∧ IsEx H1 a C fs ∧ fs.lookup f = some v ∧ Q v H1
theorem pe_exF {e : Expr} {te : TE} {pos : Pos} {f : Str} (he : PE X e te) (hb : attributeBase e f X.env (eval e X.env) = eval e X.env := by rfl) : PE X (.Attribute e f pos) (tExF X.K f te) := by
  refine ⟨fun pins s σ H Q I h => ?_⟩
  refine attr_of hb (thn (he.run pins s σ H _ I h) fun u s1 hh => ?_)
  obtain ⟨x, H1, I1, rx, a, C, fs, v, ex, T, no, is, l, q⟩ := hh
  subst ex
  obtain rfl : u = Value.ref a := rx
  obtain ⟨ox, od, J, look⟩ := is.inst I1
  obtain ⟨w', o, rfl, lo, rw'⟩ := look f v l
  exact HandSPX.exc_get I1.kIn J T.ga T.gg T.exC (PySem.W.findObj_own T.hdC no rfl lo) (handed_of rw') ⟨v, H1, I1.tok _, rw', q⟩
/-- isinstance(e, c) -/
def rIsX (K : PySem.W.Frag) : List V → Hp → VK → Prop := fun xs H Q => ∃ (a D : Addr) (fs : List (Str × V)) (c : V) (cv : Value) (b : Bool), xs = [.ref a, c] ∧ IsEx H a D fs ∧ ExcC K D ∧ (∀ u, RelV c u → u = cv) ∧ PySem.W.kitOne K (.ref D) cv = some b ∧ Q (.bl b) H
theorem call_isX : CallR X (.builtin "isinstance") (rIsX X.K) := by
  intro pins s σ H xs us Q I r h
  obtain ⟨a, D, fs, c, cv, b, rfl, is, C, hcv, e, q⟩ := h
  obtain ⟨u, v, rfl, ru, rv⟩ := vals2 r
  obtain rfl : u = Value.ref a := ru
  obtain rfl := hcv _ rv
  obtain ⟨ox, od, J, _⟩ := is.inst I
  exact PySem.W.kia_one (PySem.W.vx_kit C) I.kIn ⟨ox, od, J⟩ e (fun z => nomatch z) fun tk => ⟨.bl b, H, I.kept (t' := tk) fun _ _ z => z, rfl, q⟩

/-! ### made: C(e, .., k = v, ..), its own __init__ -/
def tMkX (C : Addr) (n m : Nat) (sp : Sp) (gV : List V → List V → List V) (E : XK) (t tk : TA) : TE := fun σ H Q => t σ H fun vs H1 => tk σ H1 fun zs H2 => vs.length = n ∧ zs.length = m ∧
  ∀ a, H2 a = none → sp (gV (.ref a :: vs) zs) (upd H2 a (exo a C none)) (fun v H3 => v = .non ∧ Q (.ref a) H3) E
/-- what the written part says of such a class -/
structure MkXC (K : PySem.W.Frag) (C fI : Addr) : Prop extends OexC K C where
  ini : PySem.W.findIn K (.ref C) "__init__" = some (some (.ref fI))
  tyI : PySem.W.typeIn K (.ref fI) = some (.type "function")
variable {CX : CXT} {k n : Nat} {fI : Addr} {fd : FuncData} {ps ks : List Str} {sp : Sp} {E : XK} {x : Str} {p pos : Pos} {e : Expr} {es : List Expr} {kws : List Keyword} {t tk : TA} {g : List Value → List Value → List Value} {gV : List V → List V → List V} {Q : VK} {us ws : List Value} {vs zs : List V}
theorem run_mkX (T : MkXC X.K C fI) (F : FnOk X.prog X.w X.K X.mg X.base CX k fI fd ps sp) (hr : Room (k + 1) X.A) (hb : KBn X.K fd ps (n + 1) ks g gV) (hx : Passes CX X E) (few : n ≤ 1000)
    (I : Inv X pins σ H s) (r : Vals vs us) (rz : Vals zs ws) (l1 : vs.length = n) (l2 : zs.length = ks.length)
    (h : ∀ a, H a = none → sp (gV (.ref a :: vs) zs) (upd H a (exo a C none)) (fun v H3 => v = .non ∧ Q (.ref a) H3) E) :
    wpAny (model X.prog X.w) X.A (call (.ref C) us (ks.zip ws)) (EP X pins σ Q) X.xe s := by
  obtain ⟨nm, q, N, bs, bm, sn, sub, ab, col, dd, k0, k1, k2, k3, k5, hC, hbm⟩ := T.cls
  obtain ⟨hp, gs, dr, tk, os⟩ := s
  have up : hp.objs.size ≤ hp.objs.size + 1 := Nat.le_succ _
  have hq := h (hp.objs.size + 1) (I.hok.fresh up)
  have len : us.length ≤ sizeLine := by
    rw [← Paired.length r, l1, sizeLine_eq]
    omega
  have keeps : ∀ b o, hp.get? b = some o → (PySem.VX.newH hp C us).get? b = some o := fun b o z => Heap.get?_push_of_some _ (Heap.get?_push_of_some _ z)
  have at_a : (PySem.VX.newH hp C us).get? (hp.objs.size + 1) = some (PySem.HandSPX.excO C hp.objs.size) := by heap_get
  have J : Inv X pins σ (upd H (hp.objs.size + 1) (exo (hp.objs.size + 1) C none)) ⟨PySem.VX.newH hp C us, gs, dr, tk, os⟩ :=
    I.laid (t' := tk) (a := hp.objs.size + 1) (o := exo (hp.objs.size + 1) C none) (h' := PySem.VX.newH hp C us) keeps up (exo_ok at_a)
  have r1 : Vals (V.ref (hp.objs.size + 1) :: vs) (Value.ref (hp.objs.size + 1) :: us) := .cons rfl r
  have r2 := hb.rel r1 rz
  have m1 : (Value.ref (hp.objs.size + 1) :: us).length = n + 1 := r1.length.symm.trans (congrArg Nat.succ l1)
  have m2 : ws.length = ks.length := rz.length.symm.trans l2
  refine wpAny_call (PySem.VX.call_it PySem.F.excBase_ValueError (fun Y => PySem.HandSPX.refsVE_contains Y bm hbm) (I.kIn _ _ hC) len (PySem.W.looks_findIn I.kIn T.ini) (fun o => PySem.W.bind_fn I.kIn o T.tyI)
    (codeAny_mono (F.run _ X.stack _ _ ⟨Value.ref (hp.objs.size + 1) :: us, ks.zip ws⟩ (g (Value.ref (hp.objs.size + 1) :: us) ws) _ _ E (hr.make C us (ks.zip ws)) (J.env0.make C us (ks.zip ws))
      (hb.to _ (Value.ref (hp.objs.size + 1) :: us) ws J.kIn m1 m2) r2 hq) fun r s' hq' => ?_))
  cases r with
  | error er => exact hx pins σ _ _ er s' J hq'
  | ok fl =>
    cases fl with
    | ret u =>
      obtain ⟨v, H', J2, rv, ev, q3⟩ := J.after hq'
      subst ev
      exact ⟨rv, ⟨V.ref (hp.objs.size + 1), H', J2, rfl, q3⟩⟩
    | next => exact hq'.elim
    | brk => exact hq'.elim
    | cont => exact hq'.elim
/-- C(e, ..) -/
theorem pe_mkX (T : MkXC X.K C fI) (F : FnOk X.prog X.w X.K X.mg X.base CX k fI fd ps sp) (hr : Room (k + 1) X.A) (hg : Gl X x) (hm : X.mg x = some (.ref C)) (hb : KBn X.K fd ps (n + 1) [] g gV) (few : n ≤ 1000) (hx : Passes CX X E)
    (ha : PA X (e :: es) t) (hdb : (x == ("__debug__" : Str)) = false := by decide) (he : starEach (e :: es) X.env = (false, eval e X.env) :: starEach es X.env := by rfl) (hpl : (backTo pos (starEach es X.env)).any (·.1) = false := by rfl) :
    PE X (.Call (.Name x p) (e :: es) [] pos) (tMkX C n 0 sp gV E t tNil) := by
  refine ⟨fun pins s σ H Q I h => ?_⟩
  refine wpAny_Call_Name_kw (ld_glob I hg hm ?_ hdb)
  refine PySem.W.callWith_K (h₀ := X.base) I.ok.mod.kin T.kC (thn (ha.run pos pins s σ H _ I h) fun us s1 hh => ?_) he hpl
  obtain ⟨vs, H1, I1, r, l1, l2, q⟩ := hh
  exact ⟨I1.kIn, run_mkX (ks := []) (zs := []) (ws := []) T F hr hb hx few I1 r .nil l1 rfl q⟩
/-- C() -/
theorem pe_mkX0 (T : MkXC X.K C fI) (F : FnOk X.prog X.w X.K X.mg X.base CX k fI fd ps sp) (hr : Room (k + 1) X.A) (hg : Gl X x) (hm : X.mg x = some (.ref C)) (hb : KBn X.K fd ps 1 [] g gV) (hx : Passes CX X E) (hdb : (x == ("__debug__" : Str)) = false := by decide) :
    PE X (.Call (.Name x p) [] [] pos) (tMkX C 0 0 sp gV E tNil tNil) := by
  refine ⟨fun pins s σ H Q I h => ?_⟩
  refine wpAny_Call_Name_kw (ld_glob I hg hm ?_ hdb)
  obtain ⟨l1, l2, q⟩ := h
  exact PySem.W.callWith_K0 I.kIn T.kC (run_mkX (n := 0) (ks := []) (us := []) (vs := []) (zs := []) (ws := []) T F hr hb hx (by decide) I .nil .nil rfl rfl q)
/-- C(k = v, ..) -/
theorem pe_mkXK (T : MkXC X.K C fI) (F : FnOk X.prog X.w X.K X.mg X.base CX k fI fd ps sp) (hr : Room (k + 1) X.A) (hg : Gl X x) (hm : X.mg x = some (.ref C)) (hb : KBn X.K fd ps 1 ks g gV) (hx : Passes CX X E)
    (hkw : PK X kws tk) (hall : (backToKw pos (keywordEach kws X.env)).all (·.1.isSome) = true := by rfl) (hks : (backToKw pos (keywordEach kws X.env)).filterMap (·.1) = ks := by rfl) (hdb : (x == ("__debug__" : Str)) = false := by decide)
    (hpl : ((backTo pos (starEach [] X.env)).any (·.1) || (backToKw pos (keywordEach kws X.env)).any (·.1.isNone)) = false := by rfl) :
    PE X (.Call (.Name x p) [] kws pos) (tMkX C 0 ks.length sp gV E tNil tk) := by
  refine ⟨fun pins s σ H Q I h => ?_⟩
  refine wpAny_Call_Name_kw (ld_glob I hg hm ?_ hdb)
  refine PySem.W.callWith_KW0 (h₀ := X.base) I.ok.mod.kin T.kC hall (thn (hkw.run pos pins s σ H _ I h) fun ws s2 hh => ?_) hpl
  obtain ⟨zs, H2, I2, rz, l1, l2, q2⟩ := hh
  refine ⟨I2.kIn, ?_⟩
  rw [hks]
  exact run_mkX (n := 0) (us := []) (vs := []) T F hr hb hx (by decide) I2 .nil rz rfl l2 q2
end
end L2

set_option maxRecDepth 100000
set_option maxHeartbeats 4000000
/-! The head's facts with one more Bool; own exception classes in it. -/
namespace VH
open PySem PySem.Spec PyProof.Rows L2 He
/-! ### the Hook -/
abbrev AlV : Type := AlD × Bool
def obsV (fa : List Fa) (fn : List DefD) (ex : PySem.W.Frag → Bool) (K : PySem.W.Frag) : AlV := (obsD fa fn K, ex K)
def obsVG (n : Nat) (fa : List Fa) (fn : List DefD) (ex : PySem.W.Frag → Bool) (g : Addr → Option Obj) : AlV := obsV fa fn ex (frG g (asD g n))
def SaysV (fa : List Fa) (fn : List DefD) (ex : PySem.W.Frag → Bool) (K : PySem.W.Frag) : Prop := SaysD fa fn K ∧ ex K = true
def hookV (n : Nat) (fa : List Fa) (fn : List DefD) (ex : PySem.W.Frag → Bool) : PySem.W.Hook where
  α := AlV
  obs := fun s => obsVG n fa fn ex s.heap.get?
  val := fun _ => (valD fn, true)
  says := fun _ h => ∃ K : PySem.W.Frag, K.In h ∧ SaysV fa fn ex K
  of := fun _ _ e => ⟨_, frG_in, congrArg (fun z : AlV => z.1) e, congrArg (fun z : AlV => z.2) e⟩
  keeps := fun _ _ _ ⟨K, hK, c⟩ k => ⟨K, PySem.W.Frag.In.keeps hK k, c⟩
theorem obsVG_eq {n : Nat} {fa : List Fa} {fn : List DefD} {ex : PySem.W.Frag → Bool} {g : Addr → Option Obj} {s : Shared} (h : ∀ a, g a = s.heap.get? a) : obsVG n fa fn ex g = (hookV n fa fn ex).obs s := by
  have e : g = s.heap.get? := funext h
  rw [e]; rfl
/-! ### an own exception class -/
/-- the class at C is over ValueError, perhaps over own ones between -/
def exB (K : PySem.W.Frag) (C : Addr) : Bool := match K.lookup C with
  | some ⟨.type t, _, .cls cd, sl⟩ => decide (t = "type") && (match cd.mro, sl.toList with
    | .ref D :: bm, [_, _, _, _, some (.builtin n), _] => decide (D = C) && (decide (n = "ValueError.__new__") && (!cd.hasDel && (cd.hasDict && PySem.HandSPX.refsVE bm)))
    | _, _ => false)
  | _ => false
theorem exB_ok {K : PySem.W.Frag} {C : Addr} (h : exB K C = true) : ∃ nm q N bs bm sn sub ab col dd k0 k1 k2 k3 k5, K.lookup C = some (excClassObj nm q C N bs bm true sn sub ab col dd k0 k1 k2 k3 k5 "ValueError.__new__") ∧ PySem.HandSPX.refsVE bm = true := by
  unfold exB at h
  split at h
  · rename_i t dd cd sl ho
    obtain ⟨y0, z0⟩ := ba h
    clear h
    have e0 : t = "type" := of_decide_eq_true y0
    split at z0
    · rename_i D bm k0 k1 k2 k3 n k5 hm hs
      obtain ⟨y1, z1⟩ := ba z0
      obtain ⟨y2, z2⟩ := ba z1
      obtain ⟨y3, z3⟩ := ba z2
      obtain ⟨y4, y5⟩ := ba z3
      have e1 : D = C := of_decide_eq_true y1
      have e2 : n = "ValueError.__new__" := of_decide_eq_true y2
      clear z0 z1 z2 z3 y0 y1 y2
      subst e0 e1 e2
      obtain ⟨nm, bs, mro, ns, qn, hd, sn, sub, ab, col, del⟩ := cd
      dsimp only at hm y3 y4
      subst hm y4
      have e3 : del = false := by
        cases del with
        | false => rfl
        | true => cases y3
      subst e3
      have e4 : sl = #[k0, k1, k2, k3, some (.builtin "ValueError.__new__"), k5] := by
        obtain ⟨l⟩ := sl
        simp only at hs
        rw [hs]
      subst e4
      exact ⟨nm, qn, ns, bs, bm, sn, sub, ab, col, dd, k0, k1, k2, k3, k5, ho, y5⟩
    · cases z0
  · cases h
def okO {α : Type} [DecidableEq α] (a b : Option α) : Bool := decide (a = b)
/-- all that an own exception class, with an __init__ of its own, must say; its fields' names -/
def clB (K : PySem.W.Frag) (x : Str) (fs : List Str) : Bool :=
  decide (PySem.W.nsIn K mainGlobals x = some (some (.ref (ga K x)))) && (exB K (ga K x) && (
  decide (PySem.W.findIn K (.ref (ga K x)) "__setattr__" = some (some (.builtin "object.__setattr__"))) && (
  decide (PySem.W.subIn K (.ref (ga K x)) (.type "BaseException") = some true) && (
  decide (PySem.W.typeIn K (.ref (ga K x)) = some (.type "type")) && (
  PySem.W.keepIn K (.ref (ga K x)) && (
  decide (PySem.W.findIn K (.ref (ga K x)) "__init__" = some (some (.ref (ma K (ga K x) "__init__")))) && (
  decide (PySem.W.typeIn K (.ref (ma K (ga K x) "__init__")) = some (.type "function")) && (
  decide (PySem.W.findIn K (.ref (ga K x)) "__getattribute__" = some (some (.builtin "BaseException.__getattribute__"))) && (
  decide (PySem.W.findIn K (.ref (ga K x)) "__getattr__" = some none) && (
  PySem.W.hasDictIn K (ga K x) && (
  decide (PySem.W.findIn K (.ref (ga K x)) "__class__" = some (some (.builtin "object.__class__"))) && (
  decide (PySem.W.mroIn K (ga K x) (.type "object") = some true) && (
  fs.all fun f => decide (PySem.W.findIn K (.ref (ga K x)) f = some none))))))))))))))
structure ClOk (K : PySem.W.Frag) (x : Str) (fs : List Str) : Prop where
  gl : PySem.W.nsIn K mainGlobals x = some (some (.ref (ga K x)))
  mkx : MkXC K (ga K x) (ma K (ga K x) "__init__")
  xf : XfC K (ga K x)
  ec : PySem.W.specialIn K (.builtin "object.__class__") "__get__" = some (some (.builtin "getset_descriptor.__get__")) → PySem.W.takesIn K (.builtin "object.__class__") = some true → ExcC K (ga K x)
  no : ∀ f ∈ fs, PySem.W.findIn K (.ref (ga K x)) f = some none
theorem clB_ok {K : PySem.W.Frag} {x : Str} {fs : List Str} (h : clB K x fs = true) : ClOk K x fs := by
  unfold clB at h
  obtain ⟨g0, h⟩ := ba h
  obtain ⟨g1, h⟩ := ba h
  obtain ⟨g2, h⟩ := ba h
  obtain ⟨g3, h⟩ := ba h
  obtain ⟨g4, h⟩ := ba h
  obtain ⟨g5, h⟩ := ba h
  obtain ⟨g6, h⟩ := ba h
  obtain ⟨g7, h⟩ := ba h
  obtain ⟨g8, h⟩ := ba h
  obtain ⟨g9, h⟩ := ba h
  obtain ⟨g10, h⟩ := ba h
  obtain ⟨g11, h⟩ := ba h
  obtain ⟨g12, h⟩ := ba h
  have d := fun {p : Prop} [Decidable p] (z : decide p = true) => of_decide_eq_true z
  exact ⟨of_decide_eq_true g0, ⟨⟨exB_ok g1, of_decide_eq_true g2, of_decide_eq_true g3, of_decide_eq_true g4, g5⟩, of_decide_eq_true g6, of_decide_eq_true g7⟩,
    ⟨of_decide_eq_true g8, of_decide_eq_true g9, of_decide_eq_true g3, g10⟩,
    fun a b => ⟨of_decide_eq_true g8, of_decide_eq_true g9, of_decide_eq_true g3, g10, of_decide_eq_true g11, a, b, of_decide_eq_true g12⟩,
    fun f hf => of_decide_eq_true (List.all_eq_true.mp h f hf)⟩
/-- what asks the descriptor __class__ -/
def dcB (K : PySem.W.Frag) : Bool := decide (PySem.W.specialIn K (.builtin "object.__class__") "__get__" = some (some (.builtin "getset_descriptor.__get__"))) && decide (PySem.W.takesIn K (.builtin "object.__class__") = some true)
end VH

set_option maxRecDepth 100000
set_option maxHeartbeats 4000000
/-! What a head's Bool says of the written part: tuples of texts, a dict of such, defaults that are objects, own classes with an own ==. -/
namespace VH
open PySem PySem.Spec PyProof.Rows L2 He
/-- written texts -/
def txsB : List Value → List Str → Bool
  | [], [] => true
  | .str x _ :: l, w :: ws => decide (x = w) && txsB l ws
  | _, _ => false
/-- at a: a written tuple of the texts ws -/
def tupB (K : PySem.W.Frag) (a : Addr) (ws : List Str) : Bool := match K.lookup a with
  | some ⟨.type c, _, .seq its _, _⟩ => decide (c = "tuple") && (txsB its.toList ws && decide (its.size ≤ 100))
  | _ => false
theorem txsB_ok : ∀ {l : List Value} {ws : List Str}, txsB l ws = true → Vals (ws.map V.str) l
  | [], [], _ => .nil
  | v :: l, w :: ws, h => by
    cases v with
    | str x t =>
      obtain ⟨h1, h2⟩ := ba (show (decide (x = w) && txsB l ws) = true from h)
      obtain rfl := of_decide_eq_true h1
      exact .cons ⟨t, rfl⟩ (txsB_ok h2)
    | _ => cases h
  | [], _ :: _, h => by cases h
  | v :: _, [], h => by cases v <;> cases h
theorem tupB_ok {K : PySem.W.Frag} {a : Addr} {ws : List Str} (h : tupB K a ws = true) (H : Hp) : SqT K H a (ws.map V.str) := by
  unfold tupB at h
  split at h
  · rename_i c d its n sl e
    obtain ⟨h1, h2⟩ := ba h
    obtain ⟨h2, h3⟩ := ba h2
    obtain rfl := of_decide_eq_true h1
    exact .inr ⟨_, its, _, e, rfl, rfl, Nat.le_trans (of_decide_eq_true h3) (by decide), txsB_ok h2⟩
  · cases h
def tupsB (K : PySem.W.Frag) : List Value → List (List Str) → Bool
  | [], [] => true
  | .ref p :: l, w :: ws => tupB K p w && tupsB K l ws
  | _, _ => false
/-- at a: a written tuple of such tuples -/
def tupTB (K : PySem.W.Frag) (a : Addr) (ws : List (List Str)) : Bool := match K.lookup a with
  | some ⟨.type c, _, .seq its _, _⟩ => decide (c = "tuple") && (tupsB K its.toList ws && decide (its.size ≤ 100))
  | _ => false
/-- the entry k of the written dict x: such a tuple -/
def entB (K : PySem.W.Frag) (x k : Str) (ws : List (List Str)) : Bool := match PySem.W.nsIn K (ga K x) k with
  | some (some (.ref p)) => tupTB K p ws
  | _ => false
theorem tupsB_ok {K : PySem.W.Frag} : ∀ {l : List Value} {ws : List (List Str)}, tupsB K l ws = true → ∃ ps : List Addr, Vals (ps.map V.ref) l ∧ ps.length = ws.length ∧ ∀ (i : Nat) (p : Addr) (w : List Str), ps[i]? = some p → ws[i]? = some w → ∀ H, SqT K H p (w.map V.str)
  | [], [], _ => ⟨[], .nil, rfl, fun i p w h => by simp at h⟩
  | v :: l, w :: ws, h => by
    cases v with
    | ref p =>
      obtain ⟨h1, h2⟩ := ba (show (tupB K p w && tupsB K l ws) = true from h)
      obtain ⟨ps, r1, r2, r3⟩ := tupsB_ok h2
      refine ⟨p :: ps, .cons rfl r1, by simp [r2], fun i q u e1 e2 H => ?_⟩
      match i, e1, e2 with
      | 0, e1, e2 =>
        cases e1
        cases e2
        exact tupB_ok h1 H
      | i + 1, e1, e2 => exact r3 i q u e1 e2 H
    | _ => cases h
  | [], _ :: _, h => by cases h
  | v :: _, [], h => by cases v <;> cases h
def Ent (K : PySem.W.Frag) (x k : Str) (ws : List (List Str)) : Prop := ∃ (p : Addr) (ps : List Addr), PySem.W.nsIn K (ga K x) k = some (some (.ref p)) ∧ (∀ H, SqT K H p (ps.map V.ref)) ∧ ps.length = ws.length ∧
  ∀ (i : Nat) (p : Addr) (w : List Str), ps[i]? = some p → ws[i]? = some w → ∀ H, SqT K H p (w.map V.str)
theorem entB_ok {K : PySem.W.Frag} {x k : Str} {ws : List (List Str)} (h : entB K x k ws = true) : Ent K x k ws := by
  unfold entB at h
  split at h
  · rename_i p e
    unfold tupTB at h
    split at h
    · rename_i c d its n sl e2
      obtain ⟨h1, h2⟩ := ba h
      obtain ⟨h2, h3⟩ := ba h2
      obtain rfl := of_decide_eq_true h1
      obtain ⟨ps, r1, r2, r3⟩ := tupsB_ok h2
      exact ⟨p, ps, e, fun H => .inr ⟨_, its, _, e2, rfl, rfl, Nat.le_trans (of_decide_eq_true h3) (by decide), r1⟩, r2, r3⟩
    · cases h
  · cases h
/-- the keyword default n of the def at f, if it is an object -/
def kwA (f : Str × Option Str) (n : Str) (K : PySem.W.Frag) : Addr := match K.lookup (fAd K f) with
  | some ⟨_, _, .func fd, _⟩ => (match fd.kwdefaults with
    | .ref D => (match PySem.W.nsIn K D n with
      | some (some (.ref a)) => a
      | _ => 0)
    | _ => 0)
  | _ => 0
/-- an own class with an own ==, none of its instances can be called -/
def ownB (K : PySem.W.Frag) (x : Str) : Bool :=
  decide (PySem.W.findIn K (.ref (ga K x)) "__ne__" = some (some (.builtin "object.__ne__"))) && (
  decide (PySem.W.subIn K (.ref (ga K x)) (.type "object") = some true) && (
  decide (PySem.W.kitOne K (.ref (ga K x)) (.ref (ga K x)) = some true) && (
  decide (PySem.W.findIn K (.ref (ga K x)) "__class__" = some (some (.builtin "object.__class__"))) && (
  decide (PySem.W.mroIn K (ga K x) (.type "object") = some true) && (
  (["tuple", "list", "dict", "int", "bool", "str", "NoneType"] : List String).all fun t => decide (PySem.W.kitOne K (.type t) (.ref (ga K x)) = some false) && decide (PySem.W.subIn K (.type t) (.ref (ga K x)) = some false))))))
structure OwnC (K : PySem.W.Frag) (x : Str) : Prop where
  ne : PySem.W.findIn K (.ref (ga K x)) "__ne__" = some (some (.builtin "object.__ne__"))
  ob : PySem.W.subIn K (.ref (ga K x)) (.type "object") = some true
  kk : PySem.W.kitOne K (.ref (ga K x)) (.ref (ga K x)) = some true
  cls : PySem.W.findIn K (.ref (ga K x)) "__class__" = some (some (.builtin "object.__class__"))
  mro : PySem.W.mroIn K (ga K x) (.type "object") = some true
  kt : ∀ t ∈ (["tuple", "list", "dict", "int", "bool", "str", "NoneType"] : List String), PySem.W.kitOne K (.type t) (.ref (ga K x)) = some false ∧ PySem.W.subIn K (.type t) (.ref (ga K x)) = some false
theorem ownB_ok {K : PySem.W.Frag} {x : Str} (h : ownB K x = true) : OwnC K x := by
  unfold ownB at h
  obtain ⟨q1, h⟩ := ba h
  obtain ⟨q2, h⟩ := ba h
  obtain ⟨q3, h⟩ := ba h
  obtain ⟨q4, h⟩ := ba h
  obtain ⟨q5, q6⟩ := ba h
  have d := fun {p : Prop} [Decidable p] (z : decide p = true) => of_decide_eq_true z
  exact ⟨d q1, d q2, d q3, d q4, d q5, fun t ht => ⟨d (ba (List.all_eq_true.mp q6 t ht)).1, d (ba (List.all_eq_true.mp q6 t ht)).2⟩⟩
end VH

set_option maxRecDepth 100000
set_option maxHeartbeats 4000000
/-! A written dict has these keys alone. -/
namespace VH
open PySem PySem.Spec PyProof.Rows L2 He
def keyB (ks : List Str) (e : DictEntry) : Bool := match e.key with
  | .str x _ => ks.contains x
  | _ => false
def keysB (K : PySem.W.Frag) (a : Addr) (ks : List Str) : Bool := match K.lookup a with
  | some ⟨_, _, .dict es _, _⟩ => es.toList.all (keyB ks)
  | _ => false
theorem keysB_ok {K : PySem.W.Frag} {a : Addr} {ks : List Str} (h : keysB K a ks = true) {z : Str} (hz : ks.contains z = false) : PySem.W.nsIn K a z = some none := by
  unfold keysB at h
  unfold PySem.W.nsIn
  split at h
  · rename_i c d es n sl e
    rw [e]
    have all : ∀ x ∈ es.toList, keyB ks x = true := List.all_eq_true.mp h
    have f1 : es.toList.find? (·.key.isStr z) = none := by
      rw [List.find?_eq_none]
      intro x hx hs
      have := all x hx
      unfold keyB at this
      split at this
      · rename_i y t ey
        rw [ey] at hs
        have ez : y = z := by simpa [Value.isStr] using hs
        subst ez
        rw [hz] at this
        cases this
      · cases this
    have f2 : es.toList.any (·.refKey) = false := by
      rw [List.any_eq_false]
      intro x hx
      have := all x hx
      unfold keyB at this
      split at this
      · rename_i y t ey
        unfold DictEntry.refKey
        rw [ey]
        simp
      · cases this
    show (match es.toList.find? (·.key.isStr z) with | some e => some (some e.val) | none => if es.toList.any (·.refKey) then none else some none) = some none
    rw [f1]
    show (if es.toList.any (·.refKey) then none else some none) = some none
    rw [f2]
    rfl
  · cases h
end VH

set_option maxRecDepth 100000
/-! The head's facts, read at addresses that are written out: no search for what is named by what. -/
namespace HkL
open PySem PySem.W PyProof.Rows He
section
variable {as : List Addr} {fa : List Fa} {fn : List DefD} {ts : List Tab} {tf : List Defn} {ex : PySem.W.Frag → Bool} {w : World}
def obL (as : List Addr) (fa : List Fa) (fn : List DefD) (ts : List Tab) (tf : List Defn) (ex : PySem.W.Frag → Bool) (g : Addr → Option Obj) : AlX :=
  match frT g as with
  | K => (obsT fa fn ts K, ex K && tabsB g tf K)
theorem told {h : Heap} (e : obL as fa fn ts tf ex h.get? = valX fn ts w) : SaysX fa fn ts tf ex w h (frT h.get? as) := by
  have eB : (ex (frT h.get? as) && tabsB h.get? tf (frT h.get? as)) = true := (Prod.mk.inj e).2
  rw [Bool.and_eq_true] at eB
  have all : ∀ p ∈ tf, PySem.W.codeHdIn (frT h.get? as) (cT (frT h.get? as) p).1 (cT (frT h.get? as) p).2 = true ∧ ∃ o : Obj, emptyTab o = true ∧ h.get? (cT (frT h.get? as) p).2 = some o := by
    intro p hp
    have one := List.all_eq_true.mp eB.2 p hp
    rw [Bool.and_eq_true] at one
    refine ⟨one.1, ?_⟩
    have two := one.2
    cases q : h.get? (cT (frT h.get? as) p).2 with
    | none => rw [q] at two; exact absurd two (by simp)
    | some o => rw [q] at two; exact ⟨o, two, rfl⟩
  refine { t := (Prod.mk.inj e).1, more := eB.1, hd := fun p hp => (all p hp).1, out := fun p hp => ?_, empty := fun p hp => ?_ }
  · obtain ⟨o, z, q⟩ := (all p hp).2
    exact frT_none q z
  · obtain ⟨o, z, q⟩ := (all p hp).2
    exact q.trans (congrArg some (emptyTab_eq z))
def hkL (as : List Addr) (fa : List Fa) (fn : List DefD) (ts : List Tab) (tf : List Defn) (ex : PySem.W.Frag → Bool) : PySem.W.Hook :=
  ⟨AlX, fun s => obL as fa fn ts tf ex s.heap.get?, valX fn ts, fun w h => ∃ K : PySem.W.Frag, K.In h ∧ SaysX fa fn ts tf ex w h K, fun _ _ e => ⟨_, frT_in, told e⟩,
    fun _ _ _ ⟨K, i, c⟩ k => ⟨K, i.keeps k, { t := c.t, more := c.more, hd := c.hd, out := c.out, empty := fun p hp => k _ _ (c.empty p hp) }⟩⟩
theorem obL_eq {g : Addr → Option Obj} {s : Shared} (e : ∀ a, g a = s.heap.get? a) : obL as fa fn ts tf ex g = (hkL as fa fn ts tf ex).obs s := congrArg (obL as fa fn ts tf ex) (funext e)
end
end HkL

set_option maxRecDepth 100000
/-! Runs of pieces of a top told exactly: from which state, place to which, with what value. -/
namespace GoX
open PySem PySem.W PySem.Calls PyProof.Rows
variable {tb : String → Option Builtin} {p : Program} {w : World} {n₀ : Nat} {ann : Option Value}
theorem go_go : ∀ {n m : Nat} {s s1 : Shared} {t t1 : Thread} {r : Shared × Thread}, topGo tb p w n₀ ann n s t = some (s1, t1) → topGo tb p w n₀ ann m s1 t1 = some r → topGo tb p w n₀ ann (n + m) s t = some r
  | 0, m, s, s1, t, t1, r, h, k => by
    obtain ⟨rfl, rfl⟩ : s = s1 ∧ t = t1 := by simpa [topGo] using h
    rw [Nat.zero_add]; exact k
  | n + 1, m, s, s1, t, t1, r, h, k => by
    rw [show n + 1 + m = n + m + 1 by omega]
    unfold topGo at h ⊢
    cases ht : through t with
    | true => rw [ht] at h; cases h
    | false =>
      rw [ht] at h
      cases hk : stepOk n₀ ann t with
      | false => rw [hk] at h; cases h
      | true =>
        rw [hk] at h
        cases hs : step (denote tb) p w s t with
        | halt o s₂ => rw [hs] at h; cases h
        | go s₂ t₂ => rw [hs] at h; exact go_go h k
theorem one {n : Nat} {s s1 : Shared} {t t1 : Thread} {r : Shared × Thread} (ht : through t = false) (hk : stepOk n₀ ann t = true) (hs : step (denote tb) p w s t = .go s1 t1) (h : topGo tb p w n₀ ann n s1 t1 = some r) : topGo tb p w n₀ ann (n + 1) s t = some r := by
  unfold topGo
  rw [ht, hk, hs]
  exact h
def uOf (B : List Frame) : Nat := (B.map fun f => f.where_.1.cUnits).sum
/-- from s at q the piece x goes to s', q' with a: in at most b steps, with room for u units above -/
def Go (tb : String → Option Builtin) (p : Program) (w : World) (n₀ : Nat) (ann : Option Value) (u b : Nat) {α : Type} (s : Shared) (q : Pos) (x : Sem α) (s' : Shared) (q' : Pos) (a : α) : Prop :=
  ∀ (c : Code) (B : List Frame), u + c.cUnits + uOf B ≤ 9000 → ∀ (K : α → Sem Fin) (H : Value → Sem Fin) (gd : Bool → Bool) (lv : List Value → List Value),
    ∃ n, n ≤ b ∧ topGo tb p w n₀ ann n s ⟨x.wrap K H gd lv, c, q, B⟩ = some (s', ⟨K a, c, q', B⟩)
section
variable {α β : Type} {u b b2 : Nat} {s s1 s' : Shared} {q q1 q' : Pos} {a : α}
theorem Go.pure : Go tb p w n₀ ann u b s q (.pure a) s q a := fun c B _ K H gd lv => ⟨0, Nat.zero_le _, rfl⟩
theorem Go.mono {b' u' : Nat} {x : Sem α} (h : Go tb p w n₀ ann u b s q x s' q' a) (e : b ≤ b') (e2 : u ≤ u') : Go tb p w n₀ ann u' b' s q x s' q' a := fun c B hu K H gd lv => by
  obtain ⟨n, hn, r⟩ := h c B (by omega) K H gd lv
  exact ⟨n, Nat.le_trans hn e, r⟩
theorem Go.wrap {x : Sem α} {K₀ : α → Sem β} {H₀ : Value → Sem β} {g₀ : Bool → Bool} {l₀ : List Value → List Value} {r : β} (h : Go tb p w n₀ ann u b s q x s1 q1 a) (k : Go tb p w n₀ ann u b2 s1 q1 (K₀ a) s' q' r) :
    Go tb p w n₀ ann u (b + b2) s q (x.wrap K₀ H₀ g₀ l₀) s' q' r := fun c B hu K H gd lv => by
  rw [Sem.wrap_wrap]
  obtain ⟨n, hn, r1⟩ := h c B hu (fun a => (K₀ a).wrap K H gd lv) (fun e => (H₀ e).wrap K H gd lv) (fun g => gd (g₀ g)) (fun l => lv (l₀ l))
  obtain ⟨m, hm, r2⟩ := k c B hu K H gd lv
  exact ⟨n + m, Nat.add_le_add hn hm, go_go r1 r2⟩
theorem Go.bind {x : Sem α} {f : α → Sem β} {r : β} (h : Go tb p w n₀ ann u b s q x s1 q1 a) (k : Go tb p w n₀ ann u b2 s1 q1 (f a) s' q' r) : Go tb p w n₀ ann u (b + b2) s q (x >>= f) s' q' r := by
  rw [Sem.bind_eq_wrap']
  exact h.wrap k
theorem Go.keep {x : Sem α} {vs : List Value} (h : Go tb p w n₀ ann u b s q x s1 q1 a) : Go tb p w n₀ ann u b s q (x.keep vs) s1 q1 a := by
  rw [Sem.keep_eq_wrap]
  exact (h.wrap (b2 := 0) Go.pure).mono (Nat.le_refl _) (Nat.le_refl _)
theorem Go.holding {x : Sem α} {vs : List Value} (h : Go tb p w n₀ ann u b s q x s1 q1 a) : Go tb p w n₀ ann u b s q (holding vs x) s1 q1 a := by
  unfold PySem.holding
  split
  · exact h
  · exact h.keep
theorem Go.try {x : Sem α} {f : Value → Sem α} (h : Go tb p w n₀ ann u b s q x s1 q1 a) : Go tb p w n₀ ann u b s q (x.tryCatch f) s1 q1 a := by
  rw [Sem.tryCatch_eq_wrap]
  exact (h.wrap (b2 := 0) Go.pure).mono (Nat.le_refl _) (Nat.le_refl _)
theorem Go.onRaise {x : Sem α} {f : Value → Sem Unit} (h : Go tb p w n₀ ann u b s q x s1 q1 a) : Go tb p w n₀ ann u b s q (x.onRaise f) s1 q1 a := by
  rw [Sem.onRaise_eq_wrap]
  exact (h.wrap (b2 := 0) Go.pure).mono (Nat.le_refl _) (Nat.le_refl _)
theorem nt (x : Sem Fin) {c : Code} {q : Pos} {B : List Frame} (h : ∀ f, x ≠ .pure (.done f)) : through ⟨x, c, q, B⟩ = false := by
  unfold through
  split
  · exact absurd (by assumption) (h _)
  · exact Bool.and_false _
theorem Go.rule {t : String} {k : Unit → Sem α} (h : Go tb p w n₀ ann u b s q (k ()) s' q' a) : Go tb p w n₀ ann u (b + 1) s q (.rule t k) s' q' a := fun c B hu K H gd lv => by
  obtain ⟨n, hn, r⟩ := h c B hu K H gd lv
  exact ⟨n + 1, Nat.succ_le_succ hn, one (nt _ fun _ e => by cases e) rfl rfl r⟩
theorem Go.at {q2 : Pos} {k : Unit → Sem α} (h : Go tb p w n₀ ann u b s q2 (k ()) s' q' a) : Go tb p w n₀ ann u (b + 1) s q (.at q2 k) s' q' a := fun c B hu K H gd lv => by
  obtain ⟨n, hn, r⟩ := h c B hu K H gd lv
  exact ⟨n + 1, Nat.succ_le_succ hn, one (nt _ fun _ e => by cases e) rfl rfl r⟩
theorem Go.point {l : List Value} {k : Unit → Sem α} (h : Go tb p w n₀ ann u b s q (k ()) s' q' a) : Go tb p w n₀ ann u (b + 1) s q (.point l k) s' q' a := fun c B hu K H gd lv => by
  obtain ⟨n, hn, r⟩ := h c B hu K H gd lv
  exact ⟨n + 1, Nat.succ_le_succ hn, one (nt _ fun _ e => by cases e) rfl rfl r⟩
theorem Go.ask {k : Setting → Sem α} (h : Go tb p w n₀ ann u b s q (k ⟨p, w.params⟩) s' q' a) : Go tb p w n₀ ann u (b + 1) s q (.ask k) s' q' a := fun c B hu K H gd lv => by
  obtain ⟨n, hn, r⟩ := h c B hu K H gd lv
  exact ⟨n + 1, Nat.succ_le_succ hn, one (nt _ fun _ e => by cases e) rfl rfl r⟩
theorem Go.fresh {k : Tok → Sem α} (h : Go tb p w n₀ ann u b ⟨s.heap, s.gens, s.drawn, s.toks + 1, s.os⟩ q (k s.toks) s' q' a) : Go tb p w n₀ ann u (b + 1) s q (.fresh k) s' q' a := fun c B hu K H gd lv => by
  obtain ⟨n, hn, r⟩ := h c B hu K H gd lv
  exact ⟨n + 1, Nat.succ_le_succ hn, one (nt _ fun _ e => by cases e) rfl rfl r⟩
theorem Go.alloc {o : Obj} {k : Addr → Sem α} (h : Go tb p w n₀ ann u b ⟨s.heap.push o, s.gens, s.drawn, s.toks, s.os⟩ q (k s.heap.objs.size) s' q' a) : Go tb p w n₀ ann u (b + 1) s q (.alloc o k) s' q' a := fun c B hu K H gd lv => by
  obtain ⟨n, hn, r⟩ := h c B hu K H gd lv
  exact ⟨n + 1, Nat.succ_le_succ hn, one (nt _ fun _ e => by cases e) rfl rfl r⟩
theorem Go.load {d : Addr} {part : Option Value} {k : Obj → Sem α} {o : Obj} (e : s.heap.get? d = some o) (h : Go tb p w n₀ ann u b s q (k o) s' q' a) : Go tb p w n₀ ann u (b + 1) s q (.load d part k) s' q' a := fun c B hu K H gd lv => by
  obtain ⟨n, hn, r⟩ := h c B hu K H gd lv
  exact ⟨n + 1, Nat.succ_le_succ hn, one (nt _ fun _ e => by cases e) rfl (by simp only [Sem.wrap, step, e]) r⟩
theorem Go.update {d : Addr} {part : Option Value} {f : Obj → Obj} {k : Unit → Sem α} (e : (s.heap.get? d).isSome = true) (hd : n₀ ≤ d) (h : Go tb p w n₀ ann u b ⟨s.heap.update d f, s.gens, s.drawn, s.toks, s.os⟩ q (k ()) s' q' a) : Go tb p w n₀ ann u (b + 1) s q (.update d part f k) s' q' a := fun c B hu K H gd lv => by
  obtain ⟨n, hn, r⟩ := h c B hu K H gd lv
  refine ⟨n + 1, Nat.succ_le_succ hn, one (nt _ fun _ e => by cases e) ?_ (by simp only [Sem.wrap, step, e, if_true]) r⟩
  show (true && (Nat.ble n₀ d || _ || _ || _)) = true
  rw [Nat.ble_eq_true_of_le hd]
  rfl
theorem Go.stack {k : List (Code × Pos) → Sem α} (h : ∀ l : List (Code × Pos), (l.map fun y => y.1.cUnits).sum ≤ 9000 → Go tb p w n₀ ann u b s q (k l) s' q' a) : Go tb p w n₀ ann u (b + 1) s q (.stack k) s' q' a := fun c B hu K H gd lv => by
  obtain ⟨n, hn, r⟩ := h ((c, q) :: B.map Frame.where_) (by
    have e : (((c, q) :: B.map Frame.where_).map fun y => y.1.cUnits).sum = c.cUnits + uOf B := by
      rw [List.map_cons, List.sum_cons, List.map_map]; rfl
    rw [e]; omega) c B hu K H gd lv
  exact ⟨n + 1, Nat.succ_le_succ hn, one (nt _ fun _ e => by cases e) rfl rfl r⟩
end
/-- a code runs to its value -/
def Ret (tb : String → Option Builtin) (p : Program) (w : World) (n₀ : Nat) (ann : Option Value) (u b : Nat) (s : Shared) (q : Pos) (cd : Code) (s' : Shared) (f : Flow) : Prop :=
  ∀ (k : Result → Sem Fin) (h : Option Value) (g : Bool) (l : List Value) (c : Code) (p₀ : Pos) (kept : List Value) (rest : List Frame), u + cd.cUnits + c.cUnits + uOf rest ≤ 9000 →
    ∃ n, n ≤ b ∧ topGo tb p w n₀ ann n s ⟨denote tb cd, cd, q, .ret k h g l c p₀ kept :: rest⟩ = some (s', ⟨k (.ok f), c, p₀, rest⟩)
section
variable {α β : Type} {u u2 b b2 : Nat} {s s1 s2 s' : Shared} {q q1 q' : Pos} {a : α} {cd : Code} {f : Flow}
theorem wrap_id (x : Sem Fin) : x.wrap .pure .raise id id = x := by
  induction x <;> simp only [Sem.wrap, id, *]
theorem Ret.done (h : Go tb p w n₀ ann u b s q (denote tb cd) s' q' (.done f)) : Ret tb p w n₀ ann u (b + 1) s q cd s' f := fun k hd g l c p₀ kept rest hu => by
  obtain ⟨n, hn, r⟩ := h cd (.ret k hd g l c p₀ kept :: rest) (by show _ + (List.sum (_ :: _)) ≤ _; rw [List.sum_cons]; show u + cd.cUnits + (c.cUnits + uOf rest) ≤ 9000; omega) .pure .raise id id
  rw [wrap_id] at r
  refine ⟨n + 1, Nat.succ_le_succ hn, go_go r (one (n := 0) ?_ rfl rfl rfl)⟩
  rfl
theorem Ret.again {cd' : Code} (h : Go tb p w n₀ ann u b s q (denote tb cd) s1 q1 (.again cd')) (hc : stepOk n₀ ann ⟨.pure (.again cd'), cd, q1, []⟩ = true) (k : Ret tb p w n₀ ann u2 b2 s1 q1 cd' s' f) (hu2 : u2 + cd'.cUnits ≤ u + cd.cUnits) :
    Ret tb p w n₀ ann u (b + b2 + 1) s q cd s' f := fun k' hd g l c p₀ kept rest hu => by
  obtain ⟨n, hn, r⟩ := h cd (.ret k' hd g l c p₀ kept :: rest) (by show _ + (List.sum (_ :: _)) ≤ _; rw [List.sum_cons]; show u + cd.cUnits + (c.cUnits + uOf rest) ≤ 9000; omega) .pure .raise id id
  rw [wrap_id] at r
  obtain ⟨m, hm, r2⟩ := k k' hd g l c p₀ (keptBy cd cd' l kept) rest (by omega)
  refine ⟨n + (m + 1), by omega, go_go r (one ?_ ?_ step_again r2)⟩
  · exact nt _ fun _ e => by cases e
  · exact hc
theorem Go.call {hd : Option Value} {g : Bool} {l : List Value} {k : Result → Sem α} (r : Ret tb p w n₀ ann u2 b s q cd s1 f) (hu2 : u2 + cd.cUnits ≤ u) (h : Go tb p w n₀ ann u b2 s1 q (k (.ok f)) s' q' a) :
    Go tb p w n₀ ann u (b + b2 + 1) s q (.call cd hd g l k) s' q' a := fun c B hu K H gd lv => by
  obtain ⟨n, hn, r1⟩ := r (fun x => (k x).wrap K H gd lv) hd (gd g) (lv l) c q (match cd, c with | .builtin _ a, _ => unmarked a.refs | .call f a, .builtin .. | .call f a, .call .. => unmarked (if (lv l).contains borrowed then a.refs else f :: a.refs) | _, _ => []) B (by omega)
  obtain ⟨m, hm, r2⟩ := h c B hu K H gd lv
  refine ⟨n + m + 1, by omega, one (nt _ fun _ e => by cases e) rfl ?_ (go_go r1 r2)⟩
  cases cd <;> cases c <;> rfl
end
end GoX

set_option maxRecDepth 100000
namespace GoX
open PySem PySem.W PySem.Calls PyProof.Rows
section
variable {p : Program} {w : World} {n₀ : Nat} {ann : Option Value}
variable {α β : Type} {u b b2 t : Nat} {s s1 s' : Shared} {q q1 q' : Pos} {a : α}
theorem Go.bs {x : Sem α} {f : α → Sem β} {r : β} (h : Go table p w n₀ ann u b s q x s1 q1 a) (e : b ≤ t) (k : Go table p w n₀ ann u (t - b) s1 q1 (f a) s' q' r) : Go table p w n₀ ann u t s q (x >>= f) s' q' r :=
  (h.bind k).mono (by omega) (Nat.le_refl _)
theorem go_eq {x : Sem α} (h : x = pure a) : Go table p w n₀ ann u b s q x s q a := h ▸ Go.pure
theorem go_typeOf {v : Value} {T : String} (h : s.TypeIs v T) : Go table p w n₀ ann u 1 s q (typeOf v) s q (.type T) := by
  cases v with
  | ref d => obtain ⟨o, ho, hc⟩ := h; exact Go.load ho (hc ▸ Go.pure)
  | _ => exact go_eq h
theorem go_specialOf {v : Value} {T : String} {name : Str} {r : Option Value} (hT : s.TypeIs v T) (h : typeLookup (.type T) name = pure r) : Go table p w n₀ ann u 1 s q (specialOf v name) s q r :=
  (go_typeOf hT).bs (Nat.le_refl _) (go_eq h)
theorem go_isInstance {v : Value} {T U : String} {b : Bool} (hT : s.TypeIs v T) (h : isSubtype (.type T) (.type U) = pure b) : Go table p w n₀ ann u 1 s q (isInstance v (.type U)) s q b :=
  (go_typeOf hT).bs (Nat.le_refl _) (go_eq h)
theorem go_cRoom {what : String} : Go table p w n₀ ann u 1 s q (cRoom what) s q () := by
  unfold cRoom
  refine Go.stack fun l hl => ?_
  show Go table p w n₀ ann u 0 s q (if (l.map fun y => y.1.cUnits).sum ≥ cLine then _ else _) s q ()
  rw [if_neg (by unfold cLine; omega)]
  exact Go.pure
theorem go_cRoomFor {what : String} {vs : List Value} : Go table p w n₀ ann u 1 s q (cRoomFor what vs) s q () := by
  unfold cRoomFor
  split
  · exact go_cRoom
  · exact Go.pure
theorem go_callU {self : Value} {T : String} {name : Str} {id : String} {refuse : Sem Value} {v : Value} (hT : s.TypeIs self T) (h : Slot T name id) (hc : Go table p w n₀ ann u b s q (call (.builtin id) [self]) s1 q1 v) :
    Go table p w n₀ ann u (b + 2) s q (callSpecialIfBoundUnlessNone? self name refuse) s1 q1 (some v) := by
  simp only [callSpecialIfBoundUnlessNone?, bindSpecialIfBound?]
  refine Go.holding ?_
  have A : Go table p w n₀ ann u 2 s q (do
      let __x ← specialOf self name
      match __x with
      | some f =>
        let st ← ask
        if st.params.followText "special-get-raises" = true then (do let __do_lift ← bindSpecial f self; pure (some __do_lift)) else tryCatch (do let __do_lift ← bindSpecial f self; pure (some __do_lift)) fun _ => do rule "special.get-raises-dropped"; pure none
      | _ => pure none) s q (some (.builtin id, [self])) := by
    refine Go.bs (go_specialOf hT h.lookup) (by decide) ?_
    simp only [h.bind]
    refine Go.ask ?_
    show Go table p w n₀ ann u 0 s q (if _ then _ else _) s q _
    split
    · exact Go.pure
    · exact Go.pure
  refine Go.bs A (by omega) ?_
  rw [show b + 2 - 2 = b by omega]
  show Go table p w n₀ ann u b s q (if (Value.builtin id == Value.none) = true then _ else _) s1 q1 _
  rw [if_neg (by rw [builtin_beq_none]; exact Bool.false_ne_true)]
  exact Go.bs hc (Nat.le_refl _) Go.pure
theorem go_callB {self : Value} {T : String} {name : Str} {id : String} {args : List Value} {v : Value} (hT : s.TypeIs self T) (h : Slot T name id) (hc : Go table p w n₀ ann u b s q (call (.builtin id) (self :: args)) s1 q1 v) :
    Go table p w n₀ ann u (b + 2) s q (callSpecialIfBound? self name args) s1 q1 (some v) := by
  simp only [callSpecialIfBound?, bindSpecialIfBound?]
  refine Go.holding ?_
  have A : Go table p w n₀ ann u 2 s q (do
      let __x ← specialOf self name
      match __x with
      | some f =>
        let st ← ask
        if st.params.followText "special-get-raises" = true then (do let __do_lift ← bindSpecial f self; pure (some __do_lift)) else tryCatch (do let __do_lift ← bindSpecial f self; pure (some __do_lift)) fun _ => do rule "special.get-raises-dropped"; pure none
      | _ => pure none) s q (some (.builtin id, [self])) := by
    refine Go.bs (go_specialOf hT h.lookup) (by decide) ?_
    simp only [h.bind]
    refine Go.ask ?_
    show Go table p w n₀ ann u 0 s q (if _ then _ else _) s q _
    split
    · exact Go.pure
    · exact Go.pure
  refine Go.bs A (by omega) ?_
  rw [show b + 2 - 2 = b by omega]
  exact Go.bs hc (Nat.le_refl _) Go.pure
theorem go_tryCompare {self other : Value} {T : String} {name : Str} {id : String} {v : Value} (hv : v ≠ .notImplemented) (hT : s.TypeIs self T) (h : Slot T name id) (hc : Go table p w n₀ ann u b s q (call (.builtin id) [self, other]) s1 q1 v) :
    Go table p w n₀ ann u (b + 2) s q (tryCompare self name other) s1 q1 (some v) := by
  simp only [tryCompare]
  refine Go.bs (go_callB hT h hc) (Nat.le_refl _) ?_
  cases v <;> first | exact absurd rfl hv | exact Go.pure
theorem go_call {f : Value} {pos : List Value} {kw : List (Str × Value)} {v : Value} {u2 : Nat} (r : Ret table p w n₀ ann u2 b s q (.call f ⟨pos, kw⟩) s1 (.ret v)) (hu : u2 + 1 ≤ u) : Go table p w n₀ ann u (b + 1) s q (call f pos kw) s1 q v := by
  show Go table p w n₀ ann u (b + 1) s q (runValue (.call f ⟨pos, kw⟩)) s1 q v
  exact Go.call (b2 := 0) r hu Go.pure
theorem go_check {id owner n : String} {T : String} {self : Value} {rest : List Value} {kw : List (Str × Value)} (hsplit : splitId id = some (owner, n))
    (hkind : (Manifest.find? owner).bind (·.attrs.lookup n) = some .slot ∨ (Manifest.find? owner).bind (·.attrs.lookup n) = some .method)
    (hsub : isSubtype (.type T) (.type owner) = pure true) (hT : s.TypeIs self T) (ha : argsOk id ⟨self :: rest, kw⟩) : Go table p w n₀ ann u 1 s q (checkBuiltinCall id ⟨self :: rest, kw⟩) s q () := by
  have hk : builtinKind id = (Manifest.find? owner).bind (·.attrs.lookup n) := by simp only [builtinKind, hsplit]
  rcases hkind with h | h <;>
  · simp only [checkBuiltinCall, hk, h, hsplit]
    refine Go.bs (go_isInstance hT hsub) (Nat.le_refl _) ?_
    simp only [Bool.not_true, Bool.false_eq_true, if_false]
    cases hsig : Manifest.signature? id with
    | none => exact Go.pure
    | some sig =>
      simp only [argsOk, hsig] at ha
      have h2 : Bind.checkArgs id sig ⟨self :: rest, kw⟩ = pure () := ha
      show Go table p w n₀ ann u 0 s q (Bind.checkArgs id sig ⟨self :: rest, kw⟩) s q ()
      rw [h2]; exact Go.pure
/-- a call of a builtin: the check, then its text -/
theorem ret_builtin {id : String} {bu : Builtin} {args : Args} {v : Value} (hb : entryFor table id = some bu) (hc : Go table p w n₀ ann u 1 s q (checkBuiltinCall id args) s q ())
    (hk : stepOk n₀ ann ⟨.pure (.again (.builtin id args)), .call (.builtin id) args, q, []⟩ = true) (hcu : (Code.builtin id args).cUnits = 1) (h : Go table p w n₀ ann u b s q (bu args) s1 q1 (.done (.ret v))) :
    Ret table p w n₀ ann u (b + 3) s q (.call (.builtin id) args) s1 (.ret v) := by
  have R1 : Ret table p w n₀ ann u (b + 1) s q (.builtin id args) s1 (.ret v) := by
    refine Ret.done (q' := q1) ?_
    show Go table p w n₀ ann u b s q (match entryFor table id with | some b => b args | none => _) s1 q1 _
    rw [hb]
    exact h
  have R0 : Go table p w n₀ ann u 1 s q (denote table (.call (.builtin id) args)) s q (.again (.builtin id args)) := by
    show Go table p w n₀ ann u 1 s q (checkBuiltinCall id args >>= fun _ => again (.builtin id args)) s q _
    exact Go.bs hc (Nat.le_refl _) Go.pure
  have R2 := Ret.again R0 hk R1 (by rw [hcu]; exact Nat.le_refl _)
  rw [show b + 3 = 1 + (b + 1) + 1 by omega]
  exact R2
end
/-! ### tuples of two texts -/
def strh (w : World) (x : Str) : Int := if x.cps.isEmpty then 0 else reduceHash (w.params.strHash x.cps)
def Tp (h : Heap) (a : Addr) (x y : Str) : Prop := ∃ o n t1 t2, h.get? a = some o ∧ o.cls = .type "tuple" ∧ o.data = .seq #[.str x t1, .str y t2] n
theorem Tp.ty {s : Shared} {a : Addr} {x y : Str} (h : Tp s.heap a x y) : s.TypeIs (.ref a) "tuple" := let ⟨o, _, _, _, ho, hc, _⟩ := h; ⟨o, ho, hc⟩
abbrev plus (s : Shared) (n : Nat) : Shared := ⟨s.heap, s.gens, s.drawn, s.toks + n, s.os⟩
def tpH (w : World) (x y : Str) : Int := reduceHash (Builtin.Tuple.tupleHashOf [strh w x, strh w y])
section
variable {p : Program} {w : World} {n₀ : Nat} {ann : Option Value}
variable {α β : Type} {u b b2 t : Nat} {s s1 s' : Shared} {q q1 q' : Pos}
theorem go_hash_str {x : Str} {tk : Tok} (hu : 1 ≤ u) : Go table p w n₀ ann u 9 s q (pyHash (.str x tk)) (plus s 1) q (strh w x) := by
  have hT : s.TypeIs (.str x tk) "str" := rfl
  have C : Go table p w n₀ ann u 6 s q (call (.builtin "str.__hash__") [.str x tk]) (plus s 1) q (.int (strh w x) s.toks) := by
    refine go_call (b := 5) (u2 := u - 1) ?_ (by omega)
    refine ret_builtin (b := 2) (q1 := q) F.entry_str_hash (go_check (T := "str") (owner := "str") (n := "__hash__") (by decide +kernel) (by first | exact .inl (by decide +kernel) | exact .inr (by decide +kernel)) (by rw [isSubtype_type]; kernel_rfl) hT (F.args_str_hash_1 _)) (by kernel_rfl) (by kernel_rfl) ?_
    show Go table p w n₀ ann (u - 1) 2 s q (strHash x >>= retInt) (plus s 1) q _
    refine Go.bs (b := 1) (a := strh w x) (Go.ask Go.pure) (by decide) ?_
    exact Go.fresh Go.pure
  show Go table p w n₀ ann u 9 s q (callSpecialIfBound? (.str x tk) "__hash__" >>= fun _ => strHash x) (plus s 1) q _
  refine Go.bs (go_callB hT F.slot_str_hash C) (by decide) ?_
  exact Go.ask Go.pure
theorem go_items {a : Addr} {o : Obj} {items : Array Value} {n : Nat} (ho : s.heap.get? a = some o) (hd : o.data = .seq items n) : Go table p w n₀ ann u 1 s q (Builtin.Tuple.tupleItemsOf (.ref a)) s q items := by
  unfold Builtin.Tuple.tupleItemsOf seqItems?
  refine Go.load ho ?_
  obtain ⟨oc, od, odt, os⟩ := o
  cases hd
  exact Go.pure
theorem go_hash_tup {a : Addr} {x y : Str} (hu : 2 ≤ u) (h : Tp s.heap a x y) : Go table p w n₀ ann u 40 s q (pyHash (.ref a)) (plus s 3) q (tpH w x y) := by
  have hT := h.ty
  obtain ⟨o, n, t1, t2, ho, hc, hd⟩ := h
  unfold pyHash pyHashByItsType
  refine Go.bs (go_cRoomFor) (by decide) ?_
  refine Go.bs (go_specialOf hT F.slot_tuple_hash.lookup) (by decide) ?_
  show Go table p w n₀ ann u _ s q (if (some (Value.builtin "tuple.__hash__") == some Value.none) = true then _ else _) _ q _
  rw [if_neg (by rw [beq_builtin_none]; exact Bool.false_ne_true)]
  refine Go.bs (go_specialOf hT F.slot_tuple_hash.lookup) (by decide) ?_
  show Go table p w n₀ ann u _ s q (callSpecialIfBoundUnlessNone? (.ref a) "__hash__" _ >>= _) _ q _
  have C : Go table p w n₀ ann u 30 s q (call (.builtin "tuple.__hash__") [.ref a]) (plus s 3) q (.int (Builtin.Tuple.tupleHashOf [strh w x, strh w y]) (s.toks + 2)) := by
    refine go_call (b := 29) (u2 := u - 1) ?_ (by omega)
    refine ret_builtin (b := 26) (q1 := q) F.entry_tuple_hash (go_check (T := "tuple") (owner := "tuple") (n := "__hash__") (by decide +kernel) (by first | exact .inl (by decide +kernel) | exact .inr (by decide +kernel)) (by rw [isSubtype_type]; kernel_rfl) hT (F.args_tuple_hash_1 _)) (by kernel_rfl) (by kernel_rfl) ?_
    show Go table p w n₀ ann (u - 1) 26 s q (Builtin.Tuple.tupleItemsOf (.ref a) >>= _) (plus s 3) q _
    refine Go.bs (go_items ho hd) (by decide) ?_
    rw [← Array.forIn_toList]
    have L : Go table p w n₀ ann (u - 1) 20 s q (forIn (#[Value.str x t1, Value.str y t2] : Array Value).toList (#[] : Array Int) fun z r => do
        let h ← pyHash z
        pure PUnit.unit
        pure (ForInStep.yield (r.push h))) (plus s 2) q #[strh w x, strh w y] := by
      simp only [List.forIn_cons, List.forIn_nil]
      refine Go.bs (Go.bs (go_hash_str (by omega)) (Nat.le_refl 9) Go.pure) (by decide) ?_
      refine Go.bs (Go.bs (go_hash_str (by omega)) (Nat.le_refl 9) Go.pure) (by decide) ?_
      exact Go.pure
    refine Go.bs L (by decide) ?_
    exact Go.fresh Go.pure
  refine Go.bs (go_callU hT F.slot_tuple_hash C) (by decide) ?_
  show Go table p w n₀ ann u _ (plus s 3) q (if (decide (-(2 : Int) ^ 63 ≤ Builtin.Tuple.tupleHashOf [strh w x, strh w y]) && decide (Builtin.Tuple.tupleHashOf [strh w x, strh w y] < 2 ^ 63)) = true then _ else _) _ q _
  unfold tpH reduceHash
  by_cases hr : (decide (-(2 : Int) ^ 63 ≤ Builtin.Tuple.tupleHashOf [strh w x, strh w y]) && decide (Builtin.Tuple.tupleHashOf [strh w x, strh w y] < 2 ^ 63)) = true
  · rw [if_pos hr, if_pos hr]
    exact Go.pure
  · rw [if_neg hr, if_neg hr]
    exact Go.rule Go.pure
end
end GoX

set_option maxRecDepth 100000
namespace GoX
open PySem PySem.W PySem.Calls PyProof.Rows
section
variable {p : Program} {w : World} {n₀ : Nat} {ann : Option Value}
variable {α β : Type} {u b b2 t : Nat} {s s1 s' : Shared} {q q1 q' : Pos}
theorem go_rich {a c : Value} {T id : String} {v : Value} (hv : v ≠ .notImplemented) (ha : s.TypeIs a T) (hb : s.TypeIs c T) (h : Slot T (cmpInfo .Eq).2.1 id) (hc : Go table p w n₀ ann u b s q (call (.builtin id) [a, c]) s q v) :
    Go table p w n₀ ann u (b + 5) s q (richCompare .Eq a c) s q v := by
  unfold richCompare
  refine Go.holding ?_
  refine Go.bs go_cRoomFor (by omega) ?_
  rw [show b + 5 - 1 = b + 4 by omega]
  rw [ha.oneThing_none]
  show Go table p w n₀ ann u (b + 4) s q (typeOf a >>= _) s q v
  refine Go.bs (go_typeOf ha) (by omega) ?_
  refine Go.bs (go_typeOf hb) (by omega) ?_
  rw [show b + 4 - 1 - 1 = b + 2 by omega]
  rw [if_neg (by simp)]
  show Go table p w n₀ ann u (b + 2) s q (tryCompare a "__eq__" c >>= _) s q v
  refine Go.bs (go_tryCompare hv ha h hc) (Nat.le_refl _) ?_
  exact Go.pure
theorem go_eq_str {x y : Str} {t1 t2 : Tok} (hu : 1 ≤ u) : Go table p w n₀ ann u 9 s q (eqBool (.str x t1) (.str y t2)) s q (decide (x = y)) := by
  unfold eqBool
  show Go table p w n₀ ann u 9 s q (if (Value.str x t1 == Value.str y t2) = true then _ else _) s q _
  by_cases hab : (Value.str x t1 == Value.str y t2) = true
  · rw [if_pos hab]
    have e : x = y := by have := eq_of_beq hab; injection this
    subst e
    rw [decide_eq_true rfl]
    exact Go.rule Go.pure
  · rw [if_neg hab]
    have e : (x.cps.toList == y.cps.toList) = decide (x = y) := by
      by_cases hne : x = y
      · subst hne; simp
      · rw [decide_eq_false hne]
        refine beq_eq_false_iff_ne.mpr fun hl => hne ?_
        cases x; cases y
        simp only [Str.mk.injEq]
        exact Array.toList_inj.mp hl
    have hT : s.TypeIs (.str x t1) "str" := rfl
    have C : Go table p w n₀ ann u 4 s q (call (.builtin "str.__eq__") [.str x t1, .str y t2]) s q (.bool (decide (x = y))) := by
      refine go_call (b := 3) (u2 := u - 1) ?_ (by omega)
      refine ret_builtin (b := 0) (q1 := q) F.entry_str_eq (go_check (T := "str") (owner := "str") (n := "__eq__") (by decide +kernel) (by first | exact .inl (by decide +kernel) | exact .inr (by decide +kernel)) (by rw [isSubtype_type]; kernel_rfl) hT (F.args_str_eq_2 _ _)) (by kernel_rfl) (by kernel_rfl) ?_
      rw [← e]
      exact Go.pure
    have hv : (Value.bool (decide (x = y))) ≠ .notImplemented := nofun
    exact Go.bs (b := 9) (go_rich hv hT rfl F.slot_str_eq C) (Nat.le_refl _) Go.pure
theorem go_eq_tup {a c : Addr} {x y x' y' : Str} (hu : 2 ≤ u) (h : Tp s.heap a x y) (h' : Tp s.heap c x' y') (hne : ¬(x = x' ∧ y = y')) : Go table p w n₀ ann u 40 s q (eqBool (.ref a) (.ref c)) s q false := by
  have hT := h.ty
  have hT' := h'.ty
  unfold eqBool
  refine Go.holding ?_
  show Go table p w n₀ ann u 40 s q (if (Value.ref a == Value.ref c) = true then _ else _) s q _
  by_cases hab : (Value.ref a == Value.ref c) = true
  · exfalso
    have e : a = c := by have := eq_of_beq hab; injection this
    subst e
    obtain ⟨o, n, t1, t2, ho, hc, hd⟩ := h
    obtain ⟨o', n', t1', t2', ho', hc', hd'⟩ := h'
    obtain rfl : o = o' := Option.some.inj (ho.symm.trans ho')
    rw [hd] at hd'
    simp at hd'
    exact hne ⟨hd'.1.1.1, hd'.1.2.1⟩
  · rw [if_neg hab]
    obtain ⟨o, n, t1, t2, ho, hc, hd⟩ := h
    obtain ⟨o', n', t1', t2', ho', hc', hd'⟩ := h'
    have C : Go table p w n₀ ann u 35 s q (call (.builtin "tuple.__eq__") [.ref a, .ref c]) s q (.bool false) := by
      refine go_call (b := 34) (u2 := u - 1) ?_ (by omega)
      refine ret_builtin (b := 31) (q1 := q) F.entry_tuple_eq (go_check (T := "tuple") (owner := "tuple") (n := "__eq__") (by decide +kernel) (by first | exact .inl (by decide +kernel) | exact .inr (by decide +kernel)) (by rw [isSubtype_type]; kernel_rfl) hT (F.args_tuple_eq_2 _ _)) (by kernel_rfl) (by kernel_rfl) ?_
      show Go table p w n₀ ann (u - 1) 31 s q (isInstance (.ref c) (.type "tuple") >>= _) s q _
      refine Go.bs (go_isInstance hT' isSubtype_tuple_tuple) (by decide) ?_
      simp only [Bool.not_true, Bool.false_eq_true, if_false]
      refine Go.bs (go_items ho hd) (by decide) ?_
      refine Go.bs (go_items ho' hd') (by decide) ?_
      show Go table p w n₀ ann (u - 1) _ s q (forIn [(Value.str x t1, Value.str x' t1'), (Value.str y t2, Value.str y' t2')] _ _ >>= _) s q _
      simp only [List.forIn_cons, List.forIn_nil]
      have K1 : ∀ (a b : Str) (t t' : Tok), Go table p w n₀ ann (u - 1) 9 s q (eqBool (.str a t) (.str b t')) s q (decide (a = b)) := fun a b t t' => go_eq_str (by omega)
      by_cases e1 : x = x'
      · have e2 : ¬ y = y' := fun z => hne ⟨e1, z⟩
        have A1 : Go table p w n₀ ann (u - 1) 9 s q (eqBool (.str x t1) (.str x' t1')) s q true := by have := K1 x x' t1 t1'; rwa [decide_eq_true e1] at this
        have A2 : Go table p w n₀ ann (u - 1) 9 s q (eqBool (.str y t2) (.str y' t2')) s q false := by have := K1 y y' t2 t2'; rwa [decide_eq_false e2] at this
        refine Go.bs (b := 18) (Go.bs (Go.bs A1 (Nat.le_refl 9) Go.pure) (by decide) (Go.bs (Go.bs A2 (Nat.le_refl 9) Go.pure) (by decide) Go.pure)) (by decide) Go.pure
      · have A1 : Go table p w n₀ ann (u - 1) 9 s q (eqBool (.str x t1) (.str x' t1')) s q false := by have := K1 x x' t1 t1'; rwa [decide_eq_false e1] at this
        refine Go.bs (b := 18) (Go.bs (Go.bs A1 (Nat.le_refl 9) Go.pure) (by decide) Go.pure) (by decide) Go.pure
    have hv : (Value.bool false) ≠ .notImplemented := nofun
    exact Go.bs (b := 40) (go_rich hv hT hT' F.slot_tuple_eq C) (Nat.le_refl _) Go.pure
theorem go_quiet {a : Addr} {x y : Str} (h : Tp s.heap a x y) : Go table p w n₀ ann u 3 s q (eqIsQuiet 8 (.ref a)) s q true := by
  have hT := h.ty
  obtain ⟨o, n, t1, t2, ho, hc, hd⟩ := h
  unfold eqIsQuiet
  refine Go.bs (go_specialOf hT F.slot_tuple_eq.lookup) (by decide) ?_
  show Go table p w n₀ ann u _ s q (isInstance (.ref a) (.type "tuple") >>= _) s q _
  refine Go.bs (go_isInstance hT isSubtype_tuple_tuple) (by decide) ?_
  simp only [Bool.not_true, Bool.false_eq_true, if_false]
  have I : Go table p w n₀ ann u 1 s q (seqItems? (.ref a)) s q (some #[.str x t1, .str y t2]) := by
    unfold seqItems?
    refine Go.load ho ?_
    obtain ⟨oc, od, odt, os⟩ := o
    cases hd
    exact Go.pure
  refine Go.bs I (by decide) ?_
  show Go table p w n₀ ann u 0 s q (forIn (#[Value.str x t1, Value.str y t2] : Array Value) _ _ >>= _) s q true
  rw [← Array.forIn_toList]
  simp only [List.forIn_cons, List.forIn_nil, eqIsQuiet_byValue _ (show carriedByValue (.str x t1) = true from rfl), eqIsQuiet_byValue _ (show carriedByValue (.str y t2) = true from rfl)]
  exact Go.pure
theorem go_tell {a : Addr} {x y : Str} (h : Tp s.heap a x y) : ∀ {stored : List Value}, (∀ v ∈ stored, ∃ c x' y', v = .ref c ∧ Tp s.heap c x' y') → Go table p w n₀ ann u (3 * stored.length + 3) s q (tableMayTell (.ref a) stored) s q false := by
  intro stored hst
  unfold tableMayTell
  split
  · exact Go.pure
  · refine Go.bs (go_quiet h) (by omega) ?_
    simp only [Bool.not_true, Bool.false_eq_true, if_false]
    rw [show 3 * stored.length + 3 - 3 = 3 * stored.length by omega]
    suffices L : ∀ (l : List Value), (∀ v ∈ l, ∃ c x' y', v = .ref c ∧ Tp s.heap c x' y') → Go table p w n₀ ann u (3 * l.length) s q (forIn l ((none, ()) : Option Bool × Unit) fun k r => do
        let b ← eqIsQuiet 8 k
        if (!b) = true then pure (ForInStep.done (some true, ())) else do
          pure PUnit.unit
          pure (ForInStep.yield (none, ()))) s q (none, ()) by
      exact Go.bs (L stored hst) (Nat.le_refl _) Go.pure
    intro l
    induction l with
    | nil => intro _; exact Go.pure
    | cons v l ih =>
      intro hl
      obtain ⟨c, x', y', rfl, hc⟩ := hl v List.mem_cons_self
      rw [List.forIn_cons]
      refine Go.bs (b := 3) (Go.bs (go_quiet hc) (Nat.le_refl _) Go.pure) (by simp only [List.length_cons]; omega) ?_
      rw [show 3 * (Value.ref c :: l).length - 3 = 3 * l.length by simp only [List.length_cons]; omega]
      exact ih fun v hv => hl v (List.mem_cons_of_mem _ hv)
end
end GoX

set_option maxRecDepth 100000
namespace GoX
open PySem PySem.W PySem.Calls PyProof.Rows
section
variable {p : Program} {w : World} {n₀ : Nat} {ann : Option Value}
variable {α β : Type} {u b b2 t : Nat} {s s1 s' : Shared} {q q1 q' : Pos}
theorem go_entries {d : Addr} {part : Option Value} {o : Obj} {es : Array DictEntry} {ep : Nat} (ho : s.heap.get? d = some o) (hd : o.data = .dict es ep) : Go table p w n₀ ann u 1 s q (dictEntries d part) s q es := by
  unfold dictEntries
  refine Go.load ho ?_
  obtain ⟨oc, od, odt, os⟩ := o
  cases hd
  exact Go.pure
theorem go_epoch {d : Addr} {part : Option Value} {o : Obj} {es : Array DictEntry} {ep : Nat} (ho : s.heap.get? d = some o) (hd : o.data = .dict es ep) : Go table p w n₀ ann u 1 s q (dictEpoch d part) s q ep := by
  unfold dictEpoch
  refine Go.load ho ?_
  obtain ⟨oc, od, odt, os⟩ := o
  cases hd
  exact Go.pure
theorem go_forIn {γ ι : Type} {r0 : γ} {f : ι → γ → Sem (ForInStep γ)} {c : Nat} : ∀ {l : List ι}, (∀ i ∈ l, Go table p w n₀ ann u c s q (f i r0) s q (.yield r0)) → Go table p w n₀ ann u (c * l.length) s q (forIn l r0 f) s q r0
  | [], _ => Go.pure
  | i :: l, h => by
    rw [List.forIn_cons]
    refine Go.bs (b := c) (h i List.mem_cons_self) (by rw [List.length_cons, Nat.mul_succ]; omega) ?_
    rw [show c * (i :: l).length - c = c * l.length by rw [List.length_cons, Nat.mul_succ]; omega]
    exact go_forIn fun j hj => h j (List.mem_cons_of_mem _ hj)
/-- a key that the entries don't hold -/
def NewKey (h : Heap) (es : Array DictEntry) (x y : Str) : Prop := ∀ e ∈ es, ∃ c x' y', e.key = .ref c ∧ Tp h c x' y' ∧ ¬(x' = x ∧ y' = y)
theorem go_find {d k : Addr} {x y : Str} {h : Int} {o : Obj} {es : Array DictEntry} {ep : Nat} (hu : 2 ≤ u) (hk : Tp s.heap k x y) (ho : s.heap.get? d = some o) (hd : o.data = .dict es ep) (hn : NewKey s.heap es x y) :
    Go table p w n₀ ann u (50 * es.size + 10) s q (dictFind d (.ref k) h) s q none := by
  have hany : ¬ (es.any fun e => e.key == Value.ref k && e.hash != h) = true := by
    rw [← Array.any_toList, List.any_eq_true]
    rintro ⟨e, hin, hc⟩
    obtain ⟨c, x', y', e1, e2, e3⟩ := hn e (Array.mem_toList_iff.mp hin)
    simp only [e1, Bool.and_eq_true, beq_iff_eq, Value.ref.injEq] at hc
    have := hc.1
    subst this
    obtain ⟨o, n, t1, t2, ho, hc, hd⟩ := e2
    obtain ⟨o', n', t1', t2', ho', hc', hd'⟩ := hk
    obtain rfl : o = o' := Option.some.inj (ho.symm.trans ho')
    rw [hd] at hd'
    simp at hd'
    exact e3 ⟨hd'.1.1.1, hd'.1.2.1⟩
  have hpl : (placesWithHash es.size (fun i => es[i]?.map (·.hash)) h).length ≤ es.size := by
    unfold placesWithHash
    exact Nat.le_trans (List.length_filter_le _ _) (Nat.le_of_eq List.length_range)
  have hst : ∀ v ∈ (placesWithHash es.size (fun i => es[i]?.map (·.hash)) h).filterMap (fun i => es[i]?.map (·.key)), ∃ c x' y', v = .ref c ∧ Tp s.heap c x' y' := by
    intro v hv
    obtain ⟨i, _, hi⟩ := List.mem_filterMap.mp hv
    cases hei : es[i]? with
    | none => rw [hei] at hi; cases hi
    | some e =>
      rw [hei] at hi
      obtain rfl : e.key = v := by simpa using hi
      obtain ⟨c, x', y', e1, e2, e3⟩ := hn e (Array.mem_of_getElem? hei)
      exact ⟨c, x', y', e1, e2⟩
  have hsl : ((placesWithHash es.size (fun i => es[i]?.map (·.hash)) h).filterMap (fun i => es[i]?.map (·.key))).length ≤ es.size := Nat.le_trans (List.length_filterMap_le _ _) hpl
  generalize hP : placesWithHash es.size (fun i => es[i]?.map (·.hash)) h = P at hpl hst hsl
  unfold dictFind
  refine Go.holding ?_
  refine Go.bs (go_entries ho hd) (by omega) ?_
  dsimp only
  rw [hP]
  rw [if_neg (show ¬ ((Value.ref k :: P.filterMap (fun i => es[i]?.map (·.key))).all carriedByValue) = true by simp [carriedByValue])]
  rw [if_neg hany]
  have body : ∀ (f : Nat → Option (Option Nat) × Option Nat → Sem (ForInStep (Option (Option Nat) × Option Nat))), (∀ i, es[i]? = none → f i (none, none) = pure (ForInStep.yield (none, none))) →
      (∀ i e, es[i]? = some e → Go table p w n₀ ann u 45 s q (f i (none, none)) s q (ForInStep.yield (none, none))) → Go table p w n₀ ann u (45 * P.length) s q (forIn P (none, none) f) s q (none, none) := fun f h0 h1 =>
    go_forIn fun i _ => by
      cases e : es[i]? with
      | none => rw [h0 i e]; exact Go.pure
      | some z => exact h1 i z e
  have each : ∀ e ∈ es, ∃ c, e.key = .ref c ∧ Go table p w n₀ ann u 40 s q (eqBool (.ref c) (.ref k)) s q false := fun e he => by
    obtain ⟨c, x', y', e1, e2, e3⟩ := hn e he
    exact ⟨c, e1, go_eq_tup hu e2 hk e3⟩
  by_cases hone : (P.filterMap (fun i => es[i]?.map (·.key)) == [Value.ref k]) = true <;>
  (first | rw [if_pos hone] | rw [if_neg hone]) <;> (first | refine Go.bs (b := 0) Go.pure (by omega) ?_ | refine Go.bs (go_tell hk hst) (by omega) ?_) <;> (
    rw [if_neg (by simp)]
    refine Go.bs (b := 45 * P.length) (body _ (fun i hi => by rw [hi]) (fun i e hi => ?_)) (by omega) Go.pure
    obtain ⟨c, e1, e2⟩ := each e (Array.mem_of_getElem? hi)
    rw [hi]
    dsimp only
    split
    · refine Go.bs (go_epoch ho hd) (by decide) ?_
      rw [e1]
      refine Go.bs e2 (by decide) ?_
      refine Go.bs (go_epoch ho hd) (by decide) ?_
      rw [if_neg (by simp)]
      rw [if_neg Bool.false_ne_true]
      refine Go.rule ?_
      simp only [Bool.false_and, Bool.false_eq_true, if_false]
      exact Go.pure
    · exact Go.pure)
end
end GoX

set_option maxRecDepth 100000
namespace GoX
open PySem PySem.W PySem.Calls PyProof.Rows
/-- a key of two texts, a text -/
structure Ent where
  x : Str
  y : Str
  z : Str
/-- an entry is put into a dict -/
abbrev putE (e : DictEntry) : Obj → Obj := Obj.mapDictKeys (·.push e)
abbrev setOne (w : World) (d : Addr) (e : Ent) (n : Addr) (t : Tok) (s : Shared) : Shared := ⟨s.heap.update d (putE ⟨tpH w e.x e.y, .ref n, .str e.z (t + 2)⟩), s.gens, s.drawn, s.toks + 3, s.os⟩
def setS (w : World) (d : Addr) : List Ent → Addr → Tok → Shared → Shared
  | [], _, _, s => s
  | e :: r, n, t, s => setS w d r (n + 1) (t + 3) (setOne w d e n t s)
def evV : List Ent → Addr → Tok → List (Value × Value)
  | [], _, _ => []
  | e :: r, n, t => (.ref n, .str e.z (t + 2)) :: evV r (n + 1) (t + 3)
section
variable {p : Program} {w : World} {n₀ : Nat} {ann : Option Value}
variable {α β : Type} {u b b2 t : Nat} {s s1 s' : Shared} {q q1 q' : Pos}
theorem Tp.update {h : Heap} {c d : Addr} {x y : Str} {o : Obj} {es : Array DictEntry} {ep : Nat} {f : Obj → Obj} (hk : Tp h c x y) (ho : h.get? d = some o) (hd : o.data = .dict es ep) : Tp (h.update d f) c x y := by
  obtain ⟨o', n, t1, t2, e1, e2, e3⟩ := hk
  have hne : d ≠ c := by
    rintro rfl
    obtain rfl : o = o' := Option.some.inj (ho.symm.trans e1)
    rw [hd] at e3
    cases e3
  exact ⟨o', n, t1, t2, Heap.get?_update_of_ne _ hne e1, e2, e3⟩
theorem go_set {d k : Addr} {x y : Str} {v : Value} {oc : Value} {od : Option Addr} {sl : Array (Option Value)} {es : Array DictEntry} {ep : Nat} (hu : 2 ≤ u) (hdn : n₀ ≤ d) (hk : Tp s.heap k x y)
    (ho : s.heap.get? d = some ⟨oc, od, .dict es ep, sl⟩) (hn : NewKey s.heap es x y) (hsz : es.size ≤ 20) :
    Go table p w n₀ ann u 1100 s q (dictSet d (.ref k) v) ⟨s.heap.update d (putE ⟨tpH w x y, .ref k, v⟩), s.gens, s.drawn, s.toks + 3, s.os⟩ q () := by
  unfold dictSet
  refine Go.holding ?_
  refine Go.bs (go_hash_tup hu hk) (by decide) ?_
  unfold dictSetHashed
  refine Go.holding ?_
  refine Go.bs (b := 1010) ((go_find (s := plus s 3) hu hk ho rfl hn).mono (by omega) (Nat.le_refl _)) (by decide) ?_
  refine Go.rule ?_
  show Go table p w n₀ ann u _ (plus s 3) q (updateDictKeys d (·.push ⟨tpH w x y, .ref k, v⟩) none) _ q ()
  unfold updateDictKeys
  refine Go.load ho ?_
  refine Go.update (by show (s.heap.get? d).isSome = true; rw [ho]; rfl) hdn ?_
  have g : (s.heap.update d (putE ⟨tpH w x y, .ref k, v⟩)).get? d = some ⟨oc, od, .dict (es.push ⟨tpH w x y, .ref k, v⟩) (ep + 1), sl⟩ := Heap.get?_update_self _ ho rfl
  refine Go.load g ?_
  show Go table p w n₀ ann u _ _ q (match Data.pastItsLine (.dict (es.push ⟨tpH w x y, .ref k, v⟩) (ep + 1)) with | some what => (unsupported what : Sem Unit) | _ => pure ()) _ q ()
  have e : Data.pastItsLine (.dict (es.push ⟨tpH w x y, .ref k, v⟩) (ep + 1)) = none := by
    unfold Data.pastItsLine
    exact if_neg (by rw [Array.size_push]; unfold sizeLine; omega)
  rw [e]
  exact Go.pure
/-- the keys of a list lie in the heap, from n on -/
def Laid (h : Heap) : List Ent → Addr → Prop
  | [], _ => True
  | e :: r, n => Tp h n e.x e.y ∧ Laid h r (n + 1)
theorem Laid.update {h : Heap} {d : Addr} {o : Obj} {es : Array DictEntry} {ep : Nat} {f : Obj → Obj} (ho : h.get? d = some o) (hd : o.data = .dict es ep) : ∀ {l : List Ent} {n : Addr}, Laid h l n → Laid (h.update d f) l n
  | [], _, _ => trivial
  | e :: r, n, hl => ⟨hl.1.update ho hd, hl.2.update ho hd⟩
theorem go_sets {d : Addr} {oc : Value} {od : Option Addr} {sl : Array (Option Value)} (hu : 2 ≤ u) (hdn : n₀ ≤ d) : ∀ (l : List Ent) (n : Addr) (t : Tok) (s : Shared) (es : Array DictEntry) (ep : Nat),
    s.heap.get? d = some ⟨oc, od, .dict es ep, sl⟩ → Laid s.heap l n → (l.map fun e => (e.x, e.y)).Nodup → (∀ e ∈ l, NewKey s.heap es e.x e.y) → es.size + l.length ≤ 20 →
    Go table p w n₀ ann u (1100 * l.length) s q (forIn (evV l n t) PUnit.unit fun (kv : Value × Value) (_ : PUnit) => (do dictSet d kv.1 kv.2; pure (ForInStep.yield PUnit.unit) : Sem (ForInStep PUnit))) (setS w d l n t s) q PUnit.unit
  | [], n, t, s, es, ep, _, _, _, _, _ => Go.pure
  | e :: r, n, t, s, es, ep, ho, hl, hnd, hn, hsz => by
    have hsz' : es.size + (r.length + 1) ≤ 20 := by rw [List.length_cons] at hsz; exact hsz
    show Go table p w n₀ ann u _ s q (forIn ((Value.ref n, Value.str e.z (t + 2)) :: evV r (n + 1) (t + 3)) PUnit.unit _) _ q _
    rw [List.forIn_cons]
    refine Go.bs (b := 1100) (Go.bs (go_set hu hdn hl.1 ho (hn e List.mem_cons_self) (by omega)) (Nat.le_refl _) Go.pure) (by rw [List.length_cons]; omega) ?_
    rw [show 1100 * (e :: r).length - 1100 = 1100 * r.length by rw [List.length_cons]; omega]
    have nd := List.nodup_cons.mp hnd
    have g : (s.heap.update d (putE ⟨tpH w e.x e.y, .ref n, .str e.z (t + 2)⟩)).get? d = some ⟨oc, od, .dict (es.push ⟨tpH w e.x e.y, .ref n, .str e.z (t + 2)⟩) (ep + 1), sl⟩ := Heap.get?_update_self _ ho rfl
    refine go_sets hu hdn r (n + 1) (t + 3) (setOne w d e n t s) _ _ g (hl.2.update ho rfl) nd.2 (fun e2 he2 z hz => ?_) (by rw [Array.size_push]; omega)
    rcases Array.mem_push.mp hz with hz | rfl
    · obtain ⟨c, x', y', a1, a2, a3⟩ := hn e2 (List.mem_cons_of_mem _ he2) z hz
      exact ⟨c, x', y', a1, a2.update ho rfl, a3⟩
    · refine ⟨n, e.x, e.y, rfl, hl.1.update ho rfl, fun ⟨q1, q2⟩ => nd.1 ?_⟩
      exact List.mem_map.mpr ⟨e2, he2, by rw [← q1, ← q2]⟩
end
end GoX

set_option maxRecDepth 100000
namespace GoX
open PySem PySem.W PySem.Calls PyProof.Rows
/-- a written entry: a tuple of two texts, a text -/
structure We where
  e : Ent
  k1 : Nat
  p1 : Pos
  k2 : Nat
  p2 : Pos
  kt : Nat
  tp : Pos
  k3 : Nat
  p3 : Pos
def We.key (a : We) : Expr := .Tuple [.Constant (.str a.e.x) a.k1 a.p1, .Constant (.str a.e.y) a.k2 a.p2] a.kt a.tp
def We.val (a : We) : Expr := .Constant (.str a.e.z) a.k3 a.p3
def We.sem (env : Env) (dp : Pos) (a : We) : Sem Value × Sem Value := (eval a.key env, do let x ← eval a.val env; standAt dp; pure x)
def tupO (x y : Str) (t : Tok) : Obj := { cls := .type "tuple", data := .seq #[.str x t, .str y (t + 1)] }
abbrev evOne (e : Ent) (s : Shared) : Shared := ⟨s.heap.push (tupO e.x e.y s.toks), s.gens, s.drawn, s.toks + 3, s.os⟩
def evS : List Ent → Shared → Shared
  | [], s => s
  | e :: r, s => evS r (evOne e s)
section
variable {p : Program} {w : World} {n₀ : Nat} {ann : Option Value}
variable {α β : Type} {u b b2 t : Nat} {s s1 s' : Shared} {q q1 q' : Pos}
theorem go_key {env : Env} {a : We} : Go table p w n₀ ann u 4 s q (eval a.key env) ⟨s.heap.push (tupO a.e.x a.e.y s.toks), s.gens, s.drawn, s.toks + 2, s.os⟩ a.tp (.ref s.heap.objs.size) := by
  show Go table p w n₀ ann u 4 s q (do standAt a.tp; newTuple (← spliced (backTo a.tp (starEach [.Constant (.str a.e.x) a.k1 a.p1, .Constant (.str a.e.y) a.k2 a.p2] env)))) _ _ _
  refine Go.at ?_
  show Go table p w n₀ ann u 3 s a.tp (do newTuple (← spliced [(false, mkText a.e.x), (false, mkText a.e.y)])) _ _ _
  refine Go.bs (b := 2) (s1 := ⟨s.heap, s.gens, s.drawn, s.toks + 2, s.os⟩) (q1 := a.tp) (a := [.str a.e.x s.toks, .str a.e.y (s.toks + 1)]) ?_ (by decide) ?_
  · refine Go.fresh ?_
    refine Go.fresh ?_
    exact Go.pure
  · refine Go.alloc ?_
    exact Go.pure
theorem go_val {env : Env} {a : We} {dp : Pos} : Go table p w n₀ ann u 2 s q (do let x ← eval a.val env; standAt dp; pure x) ⟨s.heap, s.gens, s.drawn, s.toks + 1, s.os⟩ dp (.str a.e.z s.toks) := by
  show Go table p w n₀ ann u 2 s q (do let x ← mkText a.e.z; standAt dp; pure x) _ _ _
  refine Go.fresh ?_
  refine Go.at ?_
  exact Go.pure
theorem go_pairs {env : Env} {dp : Pos} : ∀ (l : List We) (s : Shared), Go table p w n₀ ann u (6 * l.length) s dp (evalPairs (l.map (We.sem env dp))) (evS (l.map We.e) s) dp (evV (l.map We.e) s.heap.objs.size s.toks)
  | [], s => Go.pure
  | a :: r, s => by
    show Go table p w n₀ ann u (6 * (r.length + 1)) s dp (evalPairs ((eval a.key env, do let x ← eval a.val env; standAt dp; pure x) :: r.map (We.sem env dp))) _ dp _
    unfold evalPairs
    refine Go.bs go_key (by omega) ?_
    refine Go.bs (b := 2) (Go.holding (q := a.tp) go_val) (by omega) ?_
    have := go_pairs (env := env) (dp := dp) r (evOne a.e s)
    rw [show (evOne a.e s).heap.objs.size = s.heap.objs.size + 1 from Array.size_push ..] at this
    refine Go.bs (b := 6 * r.length) (Go.holding this) (by omega) ?_
    exact Go.pure
/-- the state behind a display -/
def dictS (w : World) (l : List Ent) (s : Shared) : Shared :=
  setS w s.heap.objs.size l (s.heap.objs.size + 1) s.toks (evS l ⟨s.heap.push { cls := .type "dict", data := .dict #[] }, s.gens, s.drawn, s.toks, s.os⟩)
theorem evS_get : ∀ (l : List Ent) (s : Shared) (c : Addr) (o : Obj), s.heap.get? c = some o → (evS l s).heap.get? c = some o
  | [], _, _, _, h => h
  | e :: r, s, c, o, h => evS_get r (evOne e s) c o (Heap.get?_push_of_some _ h)
theorem Tp.evS {c : Addr} {x y : Str} (l : List Ent) (h : Tp s.heap c x y) : Tp (evS l s).heap c x y := let ⟨o, n, t1, t2, a, b, d⟩ := h; ⟨o, n, t1, t2, evS_get l s c o a, b, d⟩
theorem laid_evS : ∀ (l : List Ent) (s : Shared), Laid (evS l s).heap l s.heap.objs.size
  | [], _ => trivial
  | e :: r, s => by
    have L := laid_evS r (evOne e s)
    rw [show (evOne e s).heap.objs.size = s.heap.objs.size + 1 from Array.size_push ..] at L
    refine ⟨Tp.evS r ?_, L⟩
    exact ⟨tupO e.x e.y s.toks, 0, s.toks, s.toks + 1, Heap.get?_push_size _ rfl, rfl, rfl⟩
theorem go_sub {env : Env} {dp : Pos} {l : List We} (hu : 2 ≤ u) (hdn : n₀ ≤ s.heap.objs.size) (hl : l.length ≤ 15) (hnd : ((l.map We.e).map fun e => (e.x, e.y)).Nodup) :
    Go table p w n₀ ann u 17000 s dp (subDict (l.map (We.sem env dp))) (dictS w (l.map We.e) s) dp s.heap.objs.size := by
  unfold subDict
  refine Go.alloc ?_
  have P := go_pairs (env := env) (dp := dp) (u := u) (p := p) (w := w) (n₀ := n₀) (ann := ann) l ⟨s.heap.push { cls := .type "dict", data := .dict #[] }, s.gens, s.drawn, s.toks, s.os⟩
  rw [show (s.heap.push { cls := .type "dict", data := .dict #[] }).objs.size = s.heap.objs.size + 1 from Array.size_push ..] at P
  have g := evS_get (l.map We.e) ⟨s.heap.push { cls := .type "dict", data := .dict #[] }, s.gens, s.drawn, s.toks, s.os⟩ s.heap.objs.size _ (Heap.get?_push_size s.heap rfl)
  have L := laid_evS (l.map We.e) ⟨s.heap.push { cls := .type "dict", data := .dict #[] }, s.gens, s.drawn, s.toks, s.os⟩
  rw [show (Shared.mk (s.heap.push { cls := .type "dict", data := .dict #[] }) s.gens s.drawn s.toks s.os).heap.objs.size = s.heap.objs.size + 1 from Array.size_push ..] at L
  have S := go_sets (p := p) (w := w) (ann := ann) (q := dp) hu hdn (l.map We.e) (s.heap.objs.size + 1) s.toks _ #[] 0 g L hnd (fun e _ z hz => absurd hz (Array.not_mem_empty z)) (by simp; omega)
  have A : Go table p w n₀ ann u 16999 ⟨s.heap.push { cls := .type "dict", data := .dict #[] }, s.gens, s.drawn, s.toks, s.os⟩ dp (do
      holding [.ref s.heap.objs.size] do
        if (l.map (We.sem env dp)).length ≤ 15 then
          let vs ← evalPairs (l.map (We.sem env dp))
          holding (vs.flatMap fun (k, v) => [k, v]) do
            for (k, v) in vs do dictSet s.heap.objs.size k v
        else
          rule "dict.display.long"
          for (k, v) in (l.map (We.sem env dp)) do
            let kv ← k
            let vv ← holding [kv] v
            holding [kv, vv] (dictSet s.heap.objs.size kv vv)
      return s.heap.objs.size) (dictS w (l.map We.e) s) dp s.heap.objs.size := by
    refine Go.bs (b := 6 * l.length + (1100 * (l.map We.e).length)) (a := ()) (Go.holding ?_) (by rw [List.length_map]; omega) Go.pure
    rw [if_pos (by rw [List.length_map]; exact hl)]
    refine Go.bs P (by omega) ?_
    rw [show 6 * l.length + 1100 * (l.map We.e).length - 6 * l.length = 1100 * (l.map We.e).length by omega]
    refine Go.holding ?_
    exact Go.bs S (Nat.le_refl _) Go.pure
  exact A
end
end GoX

set_option maxRecDepth 100000
namespace GoX
open PySem PySem.W PySem.Calls PyProof.Rows
section
variable {p : Program} {w : World} {n₀ : Nat} {ann : Option Value}
variable {α β : Type} {u b b2 t : Nat} {s s1 s' : Shared} {q q1 q' : Pos}
def itemsOf (env : Env) (dp : Pos) (l : List We) : List (Option (Sem Value) × Sem Value) := (evalEachOpt (l.map fun a => some a.key) env).zip ((evalEach (l.map We.val) env).map fun v => do let x ← v; standAt dp; pure x)
theorem items_eq {env : Env} {dp : Pos} : ∀ l : List We, itemsOf env dp l = l.map fun a => (some (a.sem env dp).1, (a.sem env dp).2)
  | [] => rfl
  | a :: r => congrArg (List.cons (some (a.sem env dp).1, (a.sem env dp).2)) (items_eq r)
theorem go_display {env : Env} {dp : Pos} {l : List We} (hu : 2 ≤ u) (hdn : n₀ ≤ s.heap.objs.size) (hne : l ≠ []) (hl : l.length ≤ 15) (hnd : ((l.map We.e).map fun e => (e.x, e.y)).Nodup) :
    Go table p w n₀ ann u 17000 s dp (dictDisplay (itemsOf env dp l)) (dictS w (l.map We.e) s) dp (.ref s.heap.objs.size) := by
  rw [items_eq]
  unfold dictDisplay
  dsimp only
  have L : ∀ (f : Option (Sem Value) × Sem Value → Option Addr × List (Sem Value × Sem Value) → Sem (ForInStep (Option Addr × List (Sem Value × Sem Value)))),
      (∀ k v run, run.length + 1 < 17 → f (some k, v) (none, run) = pure (ForInStep.yield (none, run ++ [(k, v)]))) → ∀ (r : List We) (run : List (Sem Value × Sem Value)), run.length + r.length ≤ 15 →
      forIn (r.map fun a => (some (a.sem env dp).1, (a.sem env dp).2)) ((none : Option Addr), run) f = pure (none, run ++ r.map (We.sem env dp)) := by
    intro f hf r
    induction r with
    | nil => intro run _; rw [List.map_nil, List.map_nil, List.append_nil]; rfl
    | cons a r ih =>
      intro run hr
      rw [List.length_cons] at hr
      rw [List.map_cons, List.forIn_cons, hf _ _ _ (by omega), List.map_cons]
      have := ih (run ++ [((a.sem env dp).1, (a.sem env dp).2)]) (by rw [List.length_append]; simp; omega)
      rw [show run ++ a.sem env dp :: r.map (We.sem env dp) = run ++ [((a.sem env dp).1, (a.sem env dp).2)] ++ r.map (We.sem env dp) by simp]
      exact this
  rw [L _ (fun k v run hr => by
    have : ((run ++ [(k, v)]).length == 17) = false := by rw [List.length_append]; simp; omega
    dsimp only
    rw [this]
    rfl) l [] (by simpa using hl)]
  obtain ⟨a, r, rfl⟩ : ∃ a r, l = a :: r := by cases l with | nil => exact absurd rfl hne | cons a r => exact ⟨a, r, rfl⟩
  show Go table p w n₀ ann u 17000 s dp ((do let x ← subDict ((a :: r).map (We.sem env dp)); pure (some x)) >>= fun (x : Option Addr) => match x with | some d => pure (Value.ref d) | none => newDict) _ dp _
  exact Go.bs (b := 17000) (Go.bs (go_sub hu hdn hl hnd) (Nat.le_refl _) Go.pure) (Nat.le_refl _) Go.pure
theorem go_dict {env : Env} {dp : Pos} {l : List We} (hu : 2 ≤ u) (hdn : n₀ ≤ s.heap.objs.size) (hne : l ≠ []) (hl : l.length ≤ 15) (hnd : ((l.map We.e).map fun e => (e.x, e.y)).Nodup) :
    Go table p w n₀ ann u 17001 s q (eval (.Dict (l.map fun a => some a.key) (l.map We.val) dp) env) (dictS w (l.map We.e) s) dp (.ref s.heap.objs.size) := by
  show Go table p w n₀ ann u 17001 s q (do standAt dp; dictDisplay (itemsOf env dp l)) _ dp _
  exact Go.at (go_display hu hdn hne hl hnd)
end
end GoX

set_option maxRecDepth 100000
/-! A head's equation in two: the looks behind the top, the facts. Each is a kernel run of its own, and needs less memory. -/
namespace HkL
open PySem PySem.W PyProof.Rows He HandSHeadRun
theorem map_two {α β γ δ : Type} {o : Option α} {f : α → β} {g : α → γ} {h : α → δ} {x : β} {y : γ} {z : δ} (a : o.map (fun s => (f s, g s)) = some (x, y)) (b : o.map h = some z) : o.map (fun s => (f s, g s, h s)) = some (x, y, z) := by
  cases o with
  | none => cases a
  | some s =>
    have a := Option.some.inj a
    have b := Option.some.inj b
    have a1 := congrArg Prod.fst a
    have a2 := congrArg Prod.snd a
    exact congrArg some (Prod.ext a1 (Prod.ext a2 b))
/-- the looks behind the top -/
def RunA (r : OpenRow) (q : Program) (M : Nat) (loose : List PySem.Str) (w : World) : Prop :=
  ∀ os : OsState, (endF (stepQ (denQ tabQ) r.prog w) M r.prog w os).map (fun s => (looksF r.prog (boot_heap w.params) s.abs, seenQ q loose (importedModules r.prog.main.body) (fun s => xlAt q [] s && recOk r.toRowW.records s) s.abs)) = some (true, openGood q loose)
/-- the facts -/
def RunB (r : OpenRow) (H : Hook) (ob : SharedT → H.α) (M : Nat) (w : World) : Prop :=
  ∀ os : OsState, (endF (stepQ (denQ tabQ) r.prog w) M r.prog w os).map (fun s => ob s) = some (H.val w)
theorem run_two {r : OpenRow} {q : Program} {H : Hook} {ob : SharedT → H.α} {M : Nat} {loose : List PySem.Str} {w : World} (a : RunA r q M loose w) (b : RunB r H ob M w) : RunEq r q H ob M loose w :=
  fun os => map_two (a os) (b os)
end HkL

set_option maxRecDepth 100000
/-! A head in three parts, for a top with a dict of tuples among its statements: the statements before it in the kernel, the dict's display as it goes whatever the hashes are (GoG), the rest in the kernel. -/
noncomputable section
namespace HkD
open PySem PySem.W PySem.Calls PyProof.Rows HandSHeadRun GoX
section
variable (st : SharedT → Thread → Option (SharedT × Thread)) (n0 : Nat) (ann : Option Value)
/-- exactly so many steps -/
def goK : Nat → SharedT → Thread → Option (SharedT × Thread)
  | 0, s, t => some (s, t)
  | m + 1, s, t => match through t with
    | true => none
    | false => match stepOk n0 ann t with
      | false => none
      | true => match st s t with
        | some r => frS r.1 fun s' => goK m s' r.2
        | none => none
/-- a piece over one frame, to its end without a jump -/
def segF : Nat → SharedT → Thread → Option (SharedT × Code × Pos)
  | 0, _, _ => none
  | m + 1, s, t => match endAt 1 t with
    | some f => match f with
      | .next => some (s, t.code, t.pos)
      | _ => none
    | none => match stepOk n0 ann t with
      | false => none
      | true => match st s t with
        | some r => frS r.1 fun s' => segF m s' r.2
        | none => none
end
section
variable {tb : String → Option Builtin} {p : Program} {w : World} {n0 : Nat} {ann : Option Value}
theorem goK_ok : ∀ (m : Nat) (s s' : SharedT) (t t' : Thread), goK (stepT (denote tb) p w) n0 ann m s t = some (s', t') → topGo tb p w n0 ann m s.abs t = some (s'.abs, t')
  | 0, s, s', t, t', h => by cases h; rfl
  | m + 1, s, s', t, t', h => by
    unfold goK at h
    unfold topGo
    cases a : through t <;> rw [a] at h <;> try cases h
    cases b : stepOk n0 ann t <;> rw [b] at h <;> try cases h
    cases c : stepT (denote tb) p w s t with
    | none => rw [c] at h; cases h
    | some r =>
      rw [c] at h
      have h' : (frS r.1 fun s' => goK (stepT (denote tb) p w) n0 ann m s' r.2) = some (s', t') := h
      rw [frS_eq] at h'
      show (match step (denote tb) p w s.abs t with | .go s' t' => topGo tb p w n0 ann m s' t' | .halt _ _ => none) = _
      rw [stepT_spec (show stepT (denote tb) p w s t = some (r.1, r.2) from c)]
      exact goK_ok m _ _ _ _ h'
theorem segF_ok : ∀ (m : Nat) (s s' : SharedT) (t : Thread) (c : Code) (q : Pos), segF (stepT (denote tb) p w) n0 ann m s t = some (s', c, q) → segRun tb p w n0 ann 1 m s.abs t = some (.next, s'.abs, c, q)
  | 0, s, s', t, c, q, h => by cases h
  | m + 1, s, s', t, c, q, h => by
    unfold segF at h
    unfold segRun
    cases a : endAt 1 t with
    | some f => rw [a] at h; cases f <;> cases h; rfl
    | none =>
      rw [a] at h
      cases b : stepOk n0 ann t <;> rw [b] at h <;> try cases h
      cases d : stepT (denote tb) p w s t with
      | none => rw [d] at h; cases h
      | some r =>
        rw [d] at h
        have h' : (frS r.1 fun s' => segF (stepT (denote tb) p w) n0 ann m s' r.2) = some (s', c, q) := h
        rw [frS_eq] at h'
        show (match step (denote tb) p w s.abs t with | .go s' t' => segRun tb p w n0 ann 1 m s' t' | .halt _ _ => none) = _
        rw [stepT_spec (show stepT (denote tb) p w s t = some (r.1, r.2) from d)]
        exact segF_ok m _ _ _ _ _ h'
end
/-! ### the display on a tree -/
def pushT (o : Obj) (s : SharedT) : Option SharedT := match ((s.tree.ins s.n o).get s.n).isSome with
  | true => some ⟨s.tree.ins s.n o, s.n + 1, s.life, s.gens, s.drawn, s.toks, s.os⟩
  | false => none
def evT : List Ent → SharedT → Option SharedT
  | [], s => some s
  | e :: r, s => match pushT (tupO e.x e.y s.toks) s with
    | some s' => evT r ⟨s'.tree, s'.n, s'.life, s'.gens, s'.drawn, s'.toks + 3, s'.os⟩
    | none => none
def setT (w : World) (d : Addr) : List Ent → Addr → Tok → SharedT → Option SharedT
  | [], _, _, s => some s
  | e :: r, n, t, s => match (s.tree.get d).isSome with
    | true => setT w d r (n + 1) (t + 3) ⟨s.tree.set d (putE ⟨tpH w e.x e.y, .ref n, .str e.z (t + 2)⟩), s.n, s.life, s.gens, s.drawn, s.toks + 3, s.os⟩
    | false => none
def dictT (w : World) (l : List Ent) (s : SharedT) : Option SharedT := match pushT { cls := .type "dict", data := .dict #[] } s with
  | some s1 => match evT l s1 with
    | some s2 => setT w s.n l (s.n + 1) s.toks s2
    | none => none
  | none => none
theorem pushT_ok {o : Obj} {s s' : SharedT} (h : pushT o s = some s') : s'.abs = ⟨s.abs.heap.push o, s.gens, s.drawn, s.toks, s.os⟩ ∧ s'.toks = s.toks := by
  unfold pushT at h
  cases g : ((s.tree.ins s.n o).get s.n).isSome <;> rw [g] at h <;> cases h
  refine ⟨?_, rfl⟩
  show (⟨absHeap (s.tree.ins s.n o) (s.n + 1) s.life, s.gens, s.drawn, s.toks, s.os⟩ : Shared) = _
  rw [absHeap_ins g]
  rfl
theorem evT_ok : ∀ (l : List Ent) (s s' : SharedT), evT l s = some s' → s'.abs = evS l s.abs
  | [], s, s', h => by cases h; rfl
  | e :: r, s, s', h => by
    unfold evT at h
    cases g : pushT (tupO e.x e.y s.toks) s with
    | none => rw [g] at h; cases h
    | some z =>
      rw [g] at h
      rw [evT_ok r _ _ h]
      obtain ⟨a, b⟩ := pushT_ok g
      show evS r ⟨z.abs.heap, z.abs.gens, z.abs.drawn, z.toks + 3, z.abs.os⟩ = evS r (evOne e s.abs)
      rw [a, b]
      rfl
theorem setT_ok {w : World} {d : Addr} : ∀ (l : List Ent) (n : Addr) (t : Tok) (s s' : SharedT), setT w d l n t s = some s' → s'.abs = setS w d l n t s.abs
  | [], n, t, s, s', h => by cases h; rfl
  | e :: r, n, t, s, s', h => by
    unfold setT at h
    cases g : (s.tree.get d).isSome <;> rw [g] at h
    · cases h
    · rw [setT_ok r _ _ _ _ h]
      obtain ⟨o, ho⟩ := Option.isSome_iff_exists.mp g
      show setS w d r (n + 1) (t + 3) ⟨absHeap (s.tree.set d (putE ⟨tpH w e.x e.y, .ref n, .str e.z (t + 2)⟩)) s.n s.life, s.gens, s.drawn, s.toks + 3, s.os⟩ = _
      rw [absHeap_set ho]
      rfl
theorem dictT_ok {w : World} {l : List Ent} {s s' : SharedT} (h : dictT w l s = some s') : s'.abs = dictS w l s.abs := by
  unfold dictT at h
  cases g : pushT { cls := .type "dict", data := .dict #[] } s with
  | none => rw [g] at h; cases h
  | some s1 =>
    have h1 : (match evT l s1 with | some s2 => setT w s.n l (s.n + 1) s.toks s2 | none => none) = some s' := by rw [g] at h; exact h
    cases g2 : evT l s1 with
    | none => rw [g2] at h1; cases h1
    | some s2 =>
      have h' : setT w s.n l (s.n + 1) s.toks s2 = some s' := by rw [g2] at h1; exact h1
      rw [setT_ok _ _ _ _ _ h', evT_ok _ _ _ g2, (pushT_ok g).1]
      show _ = setS w (absHeap s.tree s.n s.life).objs.size l ((absHeap s.tree s.n s.life).objs.size + 1) s.toks _
      rw [absHeap_size]
      rfl
/-! ### the statement -/
/-- a top in three parts: the statements before, the dict's name, its statement, the statements behind -/
structure Cut where
  pre : List Stmt
  x : Str
  np : Pos
  ap : Pos
  dp : Pos
  l : List We
  rest : List Stmt
  env : Env
  bp : Pos
  qp : Pos
def Cut.dict (C : Cut) : Expr := .Dict (C.l.map fun a => some a.key) (C.l.map We.val) C.dp
def Cut.stmt (C : Cut) : Stmt := .Assign [.Name C.x C.np] C.dict C.ap
def Cut.body (C : Cut) : List Stmt := C.pre ++ C.stmt :: C.rest
def Cut.code (C : Cut) : Code := .body C.body C.env
def Cut.B (C : Cut) : List Frame := [topFrame C.qp]
/-- what is done with the dict -/
def tailS (as : Env → Value → Option (List Str) → List (Value → Sem Unit) → Sem Flow) (sw : List Expr → Expr → Env → Sem (Option (List Str))) (ae : List Expr → Env → List (Bool × (Value → Sem Unit))) (C : Cut) (v : Value) : Sem Flow := do
  as C.env v (← sw [.Name C.x C.np] C.dict C.env) ((ae [.Name C.x C.np] C.env).map (·.2))
def tailT (as : Env → Value → Option (List Str) → List (Value → Sem Unit) → Sem Flow) (sw : List Expr → Expr → Env → Sem (Option (List Str))) (ae : List Expr → Env → List (Bool × (Value → Sem Unit))) (ex : List Stmt → Env → Sem Flow) (C : Cut) (c : Code) (v : Value) : Thread :=
  ⟨(tailS as sw ae C v).wrap (fun f => match f with | .next => (ex C.rest C.env).wrap doneF (leaveH C.env) id id | f => doneF f) (leaveH C.env) id id, c, C.dp, C.B⟩
theorem exec_cut (C : Cut) : exec C.stmt C.env = (do standAt C.ap; eval C.dict C.env) >>= tailS assignStores swappedStores assignEach C := by
  rfl
theorem go_assign {p : Program} {w : World} {n₀ : Nat} {ann : Option Value} {C : Cut} {s : Shared} {c : Code} {q : Pos} (hdn : n₀ ≤ s.heap.objs.size) (hc : c.cUnits ≤ 1000) (hne : C.l ≠ []) (hl : C.l.length ≤ 15)
    (hnd : ((C.l.map We.e).map fun e => (e.x, e.y)).Nodup) : ∃ n, n ≤ 17002 ∧ topGo table p w n₀ ann n s (restOf (C.stmt :: C.rest) C.env c q C.B) = some (dictS w (C.l.map We.e) s, tailT assignStores swappedStores assignEach execs C c (.ref s.heap.objs.size)) := by
  have G : Go table p w n₀ ann 2 17002 s q (do standAt C.ap; eval C.dict C.env) (dictS w (C.l.map We.e) s) C.dp (.ref s.heap.objs.size) := Go.at (go_dict (Nat.le_refl _) hdn hne hl hnd)
  have k := G c C.B (by
    have : uOf C.B = 4 := by unfold Cut.B; kernel_rfl
    omega) (fun v => (tailS assignStores swappedStores assignEach C v).wrap (fun f => match f with | .next => (execs C.rest C.env).wrap doneF (leaveH C.env) id id | f => doneF f) (leaveH C.env) id id) (leaveH C.env) id id
  obtain ⟨n, hn, r⟩ := k
  refine ⟨n, hn, ?_⟩
  unfold restOf
  rw [execs_cons_wrap, exec_cut, Sem.bind_eq_wrap', Sem.wrap_wrap]
  exact r
/-! ### the parts joined -/
section
variable {tb : String → Option Builtin} {p : Program} {w : World} {n₀ : Nat} {ann : Option Value}
theorem block_part {b : List Stmt} {env : Env} {q pos p' : Pos} {c c' : Code} {n N : Nat} {s s' r : Shared} (h : segRun tb p w n₀ ann 1 n s (blockOf b env c pos [topFrame q]) = some (.next, s', c', p'))
    (k : topRun tb p w n₀ ann N s' (restOf b env c' p' [topFrame q]) = some r) : topRun tb p w n₀ ann (n + N) s ⟨denote tb (.body b env), c, pos, [topFrame q]⟩ = some r := by
  have g := seg_top (B := [topFrame q]) (res := fun _ : Unit => Flow.next) (K' := fun _ => (execs b env).wrap doneF (leaveH env) id id) (H' := Sem.raise) (gd := id) (lv := id) rfl n s (blockOf b env c pos [topFrame q])
    ⟨denote tb (.body b env), c, pos, [topFrame q]⟩ .next s' c' p' ⟨rfl, rfl, .inl ⟨rfl, rfl, blockStart b env, rfl, body_wrap (tb := tb) b⟩⟩ h
  exact g.choose_spec.2 N r k
theorem list_part {l rest : List Stmt} {env : Env} {q pos p' : Pos} {c c' : Code} {n N : Nat} {s s' r : Shared} (h : segRun tb p w n₀ ann 1 n s (piecesOf l env c pos [topFrame q]) = some (.next, s', c', p'))
    (k : topRun tb p w n₀ ann N s' (restOf rest env c' p' [topFrame q]) = some r) : topRun tb p w n₀ ann (n + N) s (restOf (l ++ rest) env c pos [topFrame q]) = some r := by
  have g := seg_top (B := [topFrame q]) (res := id) (K' := fun f => match f with | .next => (execs rest env).wrap doneF (leaveH env) id id | f => doneF f) (H' := leaveH env) (gd := id) (lv := id) rfl n s (piecesOf l env c pos [topFrame q])
    (restOf (l ++ rest) env c pos [topFrame q]) .next s' c' p' ⟨rfl, rfl, .inl ⟨rfl, rfl, execs l env, rfl, execs_app_wrap l rest doneF (leaveH env) id id⟩⟩ h
  obtain ⟨a, ha, g⟩ := g
  cases (show a = .next from ha)
  exact g N r k
end
def midF (st : SharedT → Thread → Option (SharedT × Thread)) (n0 : Nat) (ann : Option Value) (M : Nat) (w : World) (bs : List Stmt → Env → Sem Unit) (as : Env → Value → Option (List Str) → List (Value → Sem Unit) → Sem Flow)
    (sw : List Expr → Expr → Env → Sem (Option (List Str))) (ae : List Expr → Env → List (Bool × (Value → Sem Unit))) (ex : List Stmt → Env → Sem Flow) (C : Cut) (s : SharedT) : Option SharedT :=
  match segF st n0 ann M s ⟨(bs C.body C.env).wrap (fun _ => doneF .next) deadEnd id id, C.code, C.bp, C.B⟩ with
  | some r1 => match segF st n0 ann M r1.1 ⟨(ex C.pre C.env).wrap doneF deadEnd id id, r1.2.1, r1.2.2, C.B⟩ with
    | some r2 => match Nat.ble n0 r2.1.n && Nat.ble r2.2.1.cUnits 1000 with
      | true => match dictT w (C.l.map We.e) r2.1 with
        | some s3 => frS s3 fun s3 => goF st n0 ann M s3 (tailT as sw ae ex C r2.2.1 (.ref r2.1.n))
        | none => none
      | false => none
    | none => none
  | none => none
/-- what the written dict must be -/
def Cut.ok (C : Cut) : Bool := !C.l.isEmpty && Nat.ble C.l.length 15 && decide (((C.l.map We.e).map fun e => (e.x, e.y)).Nodup)
theorem midF_ok {p : Program} {w : World} {n0 : Nat} {ann : Option Value} {M : Nat} {C : Cut} {s s' : SharedT} (ok : C.ok = true) (h : midF (stepT (denote treeTable) p w) n0 ann M w blockStart assignStores swappedStores assignEach execs C s = some s') :
    ∃ n, n ≤ 3 * M + 17002 ∧ topRun treeTable p w n0 ann n s.abs ⟨denote treeTable C.code, C.code, C.bp, C.B⟩ = some s'.abs := by
  unfold Cut.ok at ok
  rw [Bool.and_eq_true, Bool.and_eq_true] at ok
  obtain ⟨⟨k1, k2⟩, k3⟩ := ok
  unfold midF at h
  cases e1 : segF (stepT (denote treeTable) p w) n0 ann M s ⟨(blockStart C.body C.env).wrap (fun _ => doneF .next) deadEnd id id, C.code, C.bp, C.B⟩ with
  | none => rw [e1] at h; cases h
  | some r1 =>
    obtain ⟨s1, c1, q1⟩ := r1
    rw [e1] at h
    dsimp only at h
    cases e2 : segF (stepT (denote treeTable) p w) n0 ann M s1 ⟨(execs C.pre C.env).wrap doneF deadEnd id id, c1, q1, C.B⟩ with
    | none => rw [e2] at h; cases h
    | some r2 =>
      obtain ⟨s2, c2, q2⟩ := r2
      rw [e2] at h
      dsimp only at h
      cases e3 : Nat.ble n0 s2.n && Nat.ble c2.cUnits 1000 with
      | false => rw [e3] at h; cases h
      | true =>
        rw [e3] at h
        dsimp only at h
        cases e4 : dictT w (C.l.map We.e) s2 with
        | none => rw [e4] at h; cases h
        | some s3 =>
          rw [e4] at h
          have h' : (frS s3 fun s3 => goF (stepT (denote treeTable) p w) n0 ann M s3 (tailT assignStores swappedStores assignEach execs C c2 (.ref s2.n))) = some s' := h
          rw [frS_eq] at h'
          rw [Bool.and_eq_true] at e3
          have sz : s2.abs.heap.objs.size = s2.n := absHeap_size s2.tree s2.n s2.life
          obtain ⟨n, hn, g⟩ := go_assign (p := p) (w := w) (n₀ := n0) (ann := ann) (C := C) (s := s2.abs) (c := c2) (q := q2) (by rw [sz]; exact Nat.le_of_ble_eq_true e3.1) (Nat.le_of_ble_eq_true e3.2) (fun z => by rw [z] at k1; cases k1)
            (Nat.le_of_ble_eq_true k2) (of_decide_eq_true k3)
          rw [sz, ← dictT_ok e4, table_eq_tree] at g
          have g2 := go_top g (goF_ok h')
          have g3 := list_part (l := C.pre) (segF_ok _ _ _ _ _ _ e2) g2
          have g4 := block_part (segF_ok _ _ _ _ _ _ e1) g3
          exact ⟨M + (M + (n + M)), by omega, g4⟩
/-- the thread at the top's text, after so many steps -/
def preD (st : SharedT → Thread → Option (SharedT × Thread)) (N0 : Nat) (p : Program) (w : World) (os : OsState) : Option Thread := match putAll (boot_heap w.params).objs.toList .nil 0 with
  | some r => frNat r.2 fun n0 => (goK st n0 (bootAnn w) N0 (bootT w os (r.1, n0)) (topStub p)).map fun z => z.2
  | none => none
def endD (st : SharedT → Thread → Option (SharedT × Thread)) (bs : List Stmt → Env → Sem Unit) (as : Env → Value → Option (List Str) → List (Value → Sem Unit) → Sem Flow) (sw : List Expr → Expr → Env → Sem (Option (List Str))) (ae : List Expr → Env → List (Bool × (Value → Sem Unit)))
    (ex : List Stmt → Env → Sem Flow) (N0 M : Nat) (C : Cut) (p : Program) (w : World) (os : OsState) : Option SharedT := match putAll (boot_heap w.params).objs.toList .nil 0 with
  | some r => frNat r.2 fun n0 => match goK st n0 (bootAnn w) N0 (bootT w os (r.1, n0)) (topStub p) with
    | some z => midF st n0 (bootAnn w) M w bs as sw ae ex C z.1
    | none => none
  | none => none
theorem endD_ok {p : Program} {w : World} {os : OsState} {N0 M : Nat} {C : Cut} {s : SharedT} (ok : C.ok = true) (pre : preD (stepT (denote treeTable) p w) N0 p w os = some ⟨denote treeTable C.code, C.code, C.bp, C.B⟩)
    (h : endD (stepT (denote treeTable) p w) blockStart assignStores swappedStores assignEach execs N0 M C p w os = some s) :
    ∃ n, n ≤ N0 + (3 * M + 17002) ∧ topRun treeTable p w (boot_heap w.params).objs.size (bootAnn w) n ⟨boot_heap w.params, #[], boot_drawn, boot_toks, os⟩ (topStub p) = some s.abs := by
  unfold endD at h
  unfold preD at pre
  cases e : putAll (boot_heap w.params).objs.toList .nil 0 with
  | none => rw [e] at h; cases h
  | some r =>
    obtain ⟨t, n0⟩ := r
    rw [e] at h pre
    dsimp only at h pre
    rw [frNat_eq] at h pre
    have heap := putAll_heap e
    have size : (boot_heap w.params).objs.size = n0 := by rw [← heap]; exact absHeap_size t n0 _
    have abs : (bootT w os (t, n0)).abs = ⟨boot_heap w.params, #[], boot_drawn, boot_toks, os⟩ := congrArg (fun h => (⟨h, #[], boot_drawn, boot_toks, os⟩ : Shared)) heap
    cases e1 : goK (stepT (denote treeTable) p w) n0 (bootAnn w) N0 (bootT w os (t, n0)) (topStub p) with
    | none => rw [e1] at h; cases h
    | some z =>
      obtain ⟨sz, tz⟩ := z
      rw [e1] at h pre
      cases (Option.some.inj pre : tz = _)
      obtain ⟨n, hn, g⟩ := midF_ok ok (show midF (stepT (denote treeTable) p w) n0 (bootAnn w) M w blockStart assignStores swappedStores assignEach execs C sz = some s from h)
      refine ⟨N0 + n, by omega, ?_⟩
      rw [size, ← abs]
      exact go_top (goK_ok _ _ _ _ _ e1) g
/-! ### quick twins -/
def bsQ : List Stmt → Env → Sem Unit := PySem.W.Fast.tw1066825118222455980
def asQ : Env → Value → Option (List Str) → List (Value → Sem Unit) → Sem Flow := PySem.W.Fast.tw2470068587113613483
def swQ : List Expr → Expr → Env → Sem (Option (List Str)) := PySem.W.Fast.tw4016559146275205325
def aeQ : List Expr → Env → List (Bool × (Value → Sem Unit)) := PySem.W.Fast.tw15628205474173192105
def exQ : List Stmt → Env → Sem Flow := PySem.W.Fast.tw12563942051412417395
theorem bsQ_eq : @blockStart = bsQ := PySem.W.Fast.te1066825118222455980
theorem asQ_eq : @assignStores = asQ := PySem.W.Fast.te2470068587113613483
theorem swQ_eq : @swappedStores = swQ := PySem.W.Fast.te4016559146275205325
theorem aeQ_eq : @assignEach = aeQ := PySem.W.Fast.te15628205474173192105
theorem exQ_eq : @execs = exQ := PySem.W.Fast.te12563942051412417395
/-- the state behind the top, by twins -/
def behD (N0 M : Nat) (C : Cut) (p : Program) (w : World) (os : OsState) : Option SharedT := endD (stepQ (denQ tabQ) p w) bsQ asQ swQ aeQ exQ N0 M C p w os
theorem behD_eq (N0 M : Nat) (C : Cut) (p : Program) (w : World) (os : OsState) : endD (stepT (denote treeTable) p w) blockStart assignStores swappedStores assignEach execs N0 M C p w os = behD N0 M C p w os := by
  unfold behD
  rw [stepQ_eq, denQ_eq, tabQ_eq, bsQ_eq, asQ_eq, swQ_eq, aeQ_eq, exQ_eq]
/-- what the kernel says of the start -/
def PreD (N0 : Nat) (C : Cut) (p : Program) (w : World) : Prop := ∀ os : OsState, preD (stepQ (denQ tabQ) p w) N0 p w os = some ⟨denQ tabQ C.code, C.code, C.bp, C.B⟩
theorem PreD.plain {N0 : Nat} {C : Cut} {p : Program} {w : World} (h : PreD N0 C p w) (os : OsState) : preD (stepT (denote treeTable) p w) N0 p w os = some ⟨denote treeTable C.code, C.code, C.bp, C.B⟩ := by
  rw [stepQ_eq, denQ_eq, tabQ_eq]
  exact h os
def RunAD (r : OpenRow) (q : Program) (N0 M : Nat) (C : Cut) (loose : List PySem.Str) (w : World) : Prop :=
  ∀ os : OsState, (behD N0 M C r.prog w os).map (fun s => (looksF r.prog (boot_heap w.params) s.abs, seenQ q loose (importedModules r.prog.main.body) (fun s => xlAt q [] s && recOk r.toRowW.records s) s.abs)) = some (true, openGood q loose)
def RunBD (r : OpenRow) (H : Hook) (ob : SharedT → H.α) (N0 M : Nat) (C : Cut) (w : World) : Prop := ∀ os : OsState, (behD N0 M C r.prog w os).map (fun s => ob s) = some (H.val w)
def RunD (r : OpenRow) (q : Program) (H : Hook) (ob : SharedT → H.α) (N0 M : Nat) (C : Cut) (loose : List PySem.Str) (w : World) : Prop :=
  ∀ os : OsState, (behD N0 M C r.prog w os).map (fun s => (looksF r.prog (boot_heap w.params) s.abs, seenQ q loose (importedModules r.prog.main.body) (fun s => xlAt q [] s && recOk r.toRowW.records s) s.abs, ob s)) = some (true, openGood q loose, H.val w)
theorem run_twoD {r : OpenRow} {q : Program} {H : Hook} {ob : SharedT → H.α} {N0 M : Nat} {C : Cut} {loose : List PySem.Str} {w : World} (a : RunAD r q N0 M C loose w) (b : RunBD r H ob N0 M C w) : RunD r q H ob N0 M C loose w := fun os => HkL.map_two (a os) (b os)
/-- where a top ends: told by some number of its steps -/
theorem left_some {p q : Program} {loose : List Str} {Xt : Shared → Bool} {α : Type} {Yf : Shared → α} {Ya : World → α} {N : Nat} (e : opening p = plainProg p.main.scope.names) (hN : Nat.ble 600 N = true) (f : ∀ s, fenceModules? p s = some s)
    (run : ∀ (w : World) (os : OsState), ∃ s : Shared, (∃ n, n ≤ N ∧ topRun treeTable p w (boot_heap w.params).objs.size (bootAnn w) n ⟨boot_heap w.params, #[], boot_drawn, boot_toks, os⟩ (topStub p) = some s) ∧
      looksF p (boot_heap w.params) s = true ∧ openSeen q loose (importedModules p.main.body) Xt true s = openGood q loose ∧ Yf s = Ya w) : LeftO p q loose Xt Yf Ya N true := by
  intro w
  have b := boot_open e hN f w
  cases hs : fencedOpening treeTable p w N with
  | none => rw [hs] at b; cases b
  | some z =>
    obtain ⟨hp, gs, dr, tk, os⟩ := z
    rw [hs] at b
    have b := Option.some.inj b
    cases (congrArg Prod.fst b : hp = boot_heap w.params)
    cases (congrArg (fun x => x.2.1) b : gs = Array.mk [])
    cases (congrArg (fun x => x.2.2.1) b : dr = boot_drawn)
    cases (congrArg (fun x => x.2.2.2) b : tk = boot_toks)
    obtain ⟨s, ⟨n, hn, g⟩, l1, l2, l3⟩ := run w os
    have g := topRun_mono (N - n) n _ _ _ g
    rw [Nat.add_sub_cancel' hn] at g
    unfold looksF at l1
    have top : topFrom treeTable p w N ⟨boot_heap w.params, Array.mk [], boot_drawn, boot_toks, os⟩ = some s := by
      unfold topFrom
      dsimp only
      rw [boot_ns]
      refine Eq.trans (congrArg (fun z : Option Shared => z.bind _) g) ?_
      exact Eq.trans (congrArg (fun z : Bool => match z with | true => some s | false => none) l1) rfl
    unfold openEnds
    rw [hs]
    refine Eq.trans (congrArg (Option.map _) top) ?_
    show some (_, _) = some (_, _)
    rw [l2, l3]
theorem head_D {r : OpenRow} {q : Program} {H : Hook} {ob : SharedT → H.α} {N0 M : Nat} {C : Cut} {loose : List PySem.Str} {d : DefRec} {kwd : List (PySem.Str × PySem.Expr)} (ho : ∀ s : SharedT, ob s = H.obs s.abs)
    (e : opening r.prog = plainProg r.prog.main.scope.names) (f : ∀ s, fenceModules? r.prog s = some s) (ok : C.ok = true) (pre : ∀ w, PreD N0 C r.prog w) (run : ∀ w, RunD r q H ob N0 M C loose w)
    (hdef : defOf q r.name = some (d, kwd)) (hp : r.prog.theDef r.name = some (d.params, d.body, d.scope)) (hk : kwWritten? d.params.kwonlyargs d.params.kw_defaults = some kwd)
    (hwr : (!r.writes || r.records.isEmpty) = true) (k1 : r.wellSaid = true) (k2 : (chainsOk q && opensWell r.prog && (frees r.toRowW && r.within.isEmpty)) = true) (hb : r.prog.bare) (hw : r.toRowW.promised)
    (call : WalkO q loose (XL q []) H.says r.toRowW d kwd fun f vs => PySem.call f vs) : r.Holds := by
  have left : LeftO r.prog q loose (fun s => xlAt q [] s && recOk r.toRowW.records s) H.obs H.val (N0 + (3 * M + 17002)) true := by
    refine left_some e (Nat.ble_eq_true_of_le (by omega)) f fun w os => ?_
    obtain ⟨s, hs, hv⟩ := Option.map_eq_some_iff.mp (run w os)
    rw [← behD_eq] at hs
    obtain ⟨n, hn, g⟩ := endD_ok ok ((pre w).plain os) hs
    have v1 := congrArg Prod.fst hv
    have v2 := congrArg (fun x => x.2.1) hv
    have v3 := congrArg (fun x => x.2.2) hv
    exact ⟨s.abs, ⟨n, hn, g⟩, v1, (seenQ_eq ..).trans v2, (ho s).symm.trans v3⟩
  exact holds_open left H.of H.keeps (XP := XL q []) (YP := H.says) (fun s z => xl_of s (Bool.and_eq_true_iff.mp z).1) XL.keeps hdef hp hk (fun s z => recFacts_of (Bool.and_eq_true_iff.mp z).2) hwr k1 k2 hb hw call
/-! ### a cut read off the text -/
def weOf : Option Expr → Expr → We
  | some (.Tuple [.Constant (.str x) k1 p1, .Constant (.str y) k2 p2] kt tp), .Constant (.str z) k3 p3 => ⟨⟨x, y, z⟩, k1, p1, k2, p2, kt, tp, k3, p3⟩
  | _, _ => ⟨⟨"", "", ""⟩, 0, default, 0, default, 0, default, 0, default⟩
def cutOf (body : List Stmt) (i : Nat) (env : Env) (bp qp : Pos) : Cut := match body.drop i with
  | .Assign [.Name x np] (.Dict ks vs dp) ap :: rest => ⟨body.take i, x, np, ap, dp, List.zipWith weOf ks vs, rest, env, bp, qp⟩
  | _ => ⟨[], "", default, default, default, [], [], env, bp, qp⟩
end HkD

set_option maxRecDepth 100000
set_option maxHeartbeats 0
namespace K55
open PySem PySem.Spec PyProof.Rows L2 He VH
def top (i : Nat) : Stmt := PySem.Challenge.pw_fillbehind_k55_what_sights_refuse.main.body.getD i (.Pass ⟨0, 0, 0, 0⟩)
def ex (K : PySem.W.Frag) : Bool := dcB K && (clB K "NoStatement" [] && (clB K "NoNumber" ["part"] && (clB K "NoWriter" ["part", "index"] && (clB K "NoFill" ["part"] && (clB K "NoPhase" ["part"] && (clB K "NoRollout" ["part", "index"] && (clB K "NoWord" ["word"] && (tupB K (ga K "CHECKS") ["missing", "same old", "same new"] && (tupB K (ga K "READING") ["put", "read", "copy", "same old", "same new"] && (tupB K (ga K "TAKING") ["insert", "input"] && (tupB K (ga K "SAVES") ["last", "first"] && (tupB K (ga K "PROMISES") ["right", "mild", "kept", "once"] && (tupB K (ga K "WAITS") ["done", "drained"] && (tupB K (ga K "LOOKS") ["absent", "missing", "right", "wrong"] && (entB K "PLACES" "set" [["keep", "input", "read"], ["keep", "none", "now", "read", "copy"]] && (entB K "PLACES" "put" [["none", "now", "read", "copy"]] && (entB K "PLACES" "insert" [["none", "now"]] && (entB K "PLACES" "delete" [] && (keysB K (ga K "PLACES") ["set", "put", "insert", "delete"] && (ownB K "Writer" && (ownB K "Fill" && (ownB K "Phase" && (ownB K "Rollout" && (tupB K (kwA ("Phase", some "__init__") "writers" K) [] && (tupB K (kwA ("Phase", some "__init__") "promises" K) [] && (tupB K (kwA ("Phase", some "__init__") "waits" K) [] && (tupB K (kwA ("Rollout", some "__init__") "back" K) [] && (((["Writer", "Fill", "Phase", "Rollout"] : List Str).all fun c => (["Writer", "Fill", "Phase", "Rollout"] : List Str).all fun d => decide (PySem.W.kitOne K (.ref (ga K c)) (.ref (ga K d)) = some (d == c))) && ((["NoStatement", "NoNumber", "NoWriter", "NoFill", "NoPhase", "NoRollout", "NoWord"] : List Str).all fun c => (["NoStatement", "NoNumber", "NoWriter", "NoFill", "NoPhase", "NoRollout", "NoWord", "FillError"] : List Str).all fun d => decide (PySem.W.exmOne K (.ref (ga K c)) (.ref (ga K d)) = some (d == c || d == "FillError")))))))))))))))))))))))))))))))
def names0 : List PySem.Str := ["is_integer", "is_between", "is_word", "are_words", "is_sequence", "is_sized", "is_name", "are_names", "is_plain", "is_statement", "checks_of", "with_check", "has_word", "needs_read", "needs_input", "takes_effect", "fails", "row_behind", "old_behind", "source_behind", "is_read", "is_behind_read", "step_fits", "is_fill_statement"]
def names1 : List PySem.Str := ["wrong_writer", "wrong_phase", "is_way", "wrong_way", "writer_at", "check_rollout", "options_where", "all_options", "writer_options", "possible_checks", "fill_options", "with_option", "rebuilt", "stricter_writer", "stricter_fill", "stricter_phase", "by_call", "by_worker", "by_step", "bounded", "symbols_by_integers", "integers_of", "is_numbered", "numbered"]
def names2 : List PySem.Str := ["row_with", "is_locked", "deeds_of", "call_deeds", "go_deeds", "can_step", "worker_deeds", "worker_words", "is_passed", "phase_deeds", "can_go_on", "state_behind", "behind_step", "behind_work", "moves_of", "starts", "check_most", "explored", "history_to", "look", "sight", "_law_draw", "_law_well", "_law_one"]
def names3 : List PySem.Str := ["_law_careful", "_law_said", "CHECKS", "READING", "TAKING", "SAVES", "PROMISES", "WAITS", "HOLDING", "LOOKS", "NOTHING", "WORDS_BEHIND", "PLACES", "Writer", "Fill", "Phase", "Rollout", "NoStatement", "NoNumber", "NoWriter", "NoFill", "NoPhase", "NoRollout", "TooMany"]
def names4 : List PySem.Str := ["NoWord", "NoOption", "FillError", "LETTERS"]
def names : List PySem.Str := names0 ++ (names1 ++ (names2 ++ (names3 ++ (names4))))
def fa0 : List He.Fa := [.glo "FillError", .glo "is_integer", .glo "is_between", .glo "is_word", .glo "are_words", .glo "is_sequence", .glo "is_sized", .glo "is_name", .glo "are_names", .glo "is_statement", .glo "checks_of", .glo "has_word", .glo "needs_read", .glo "needs_input", .glo "is_read", .glo "is_behind_read", .glo "step_fits", .glo "is_fill_statement", .glo "wrong_writer", .glo "wrong_phase", .glo "is_way", .glo "wrong_way", .glo "check_rollout", .glo "check_most"]
def fa1 : List He.Fa := [.glo "sight", .glo "_law_draw", .glo "_law_well", .glo "_law_one", .glo "_law_careful", .glo "_law_said", .glo "law", .glo "CHECKS", .glo "READING", .glo "TAKING", .glo "SAVES", .glo "PROMISES", .glo "WAITS", .glo "LOOKS", .glo "PLACES", .glo "Writer", .glo "Fill", .glo "Phase", .glo "Rollout", .free "len", .free "int", .free "range", .free "isinstance", .free "tuple"]
def fa2 : List He.Fa := [.free "bool", .free "str", .free "list", .free "all", .free "any", .free "zip", .free "set", .free "enumerate", .free "min", .free "ValueError", .free "next", .str "LETTERS" "abcdefghijklmnopqrstuvwxyz", .cls "Writer", .noat "Writer" "name", .noat "Writer" "needs_input", .noat "Writer" "steps", .meth "Writer" "__init__", .mkr "Writer", .cls "Fill", .noat "Fill" "again", .noat "Fill" "batch", .noat "Fill" "falls", .noat "Fill" "lock", .noat "Fill" "only_missing"]
def fa3 : List He.Fa := [.noat "Fill" "save", .noat "Fill" "statement", .meth "Fill" "__init__", .mkr "Fill", .cls "Phase", .noat "Phase" "fills", .noat "Phase" "name", .noat "Phase" "promises", .noat "Phase" "waits", .noat "Phase" "writers", .meth "Phase" "__init__", .mkr "Phase", .cls "Rollout", .noat "Rollout" "back", .noat "Rollout" "counts", .noat "Rollout" "fill", .noat "Rollout" "hands", .noat "Rollout" "keeps", .noat "Rollout" "phases", .noat "Rollout" "workers", .noat "Rollout" "writers", .meth "Rollout" "__init__", .meth "Rollout" "__len__", .mkr "Rollout"]
def fa : List He.Fa := fa0 ++ (fa1 ++ (fa2 ++ (fa3)))
def dd (i : Nat) (x : Str) : He.DefD := ⟨(x, none), x, x, defArgs (top i), defBody (top i), defScope (top i), [], []⟩
def dm (i : Nat) (x : Str) (j : Nat) (m q : Str) : He.DefD := ⟨(x, some m), m, q, defArgs (inClass (top i) j), defBody (inClass (top i) j), defScope (inClass (top i) j), [], []⟩
def fn0 : List He.DefD := [dd 13 "is_integer", dd 14 "is_between", dd 15 "is_word", dd 16 "are_words", dd 17 "is_sequence", dd 18 "is_sized", dd 19 "is_name", dd 20 "are_names", dd 27 "is_statement", dd 28 "checks_of", dd 30 "has_word", dd 31 "needs_read", dd 32 "needs_input", dd 42 "is_read", dd 43 "is_behind_read", dd 44 "step_fits", dd 46 "is_fill_statement", dd 49 "wrong_writer", dd 50 "wrong_phase", dd 51 "is_way", dd 52 "wrong_way", dd 55 "check_rollout", dd 98 "check_most", ⟨("sight", none), "sight", "sight", defArgs (top 104), defBody (top 104), defScope (top 104), [], [("most", .int 2000)]⟩]
def fn1 : List He.DefD := [dd 106 "_law_draw", dd 107 "_law_well", dd 108 "_law_one", dd 109 "_law_careful", dd 110 "_law_said", dd 111 "law", dm 2 "NoStatement" 0 "__init__" "NoStatement.__init__", dm 3 "NoNumber" 0 "__init__" "NoNumber.__init__", dm 4 "NoWriter" 0 "__init__" "NoWriter.__init__", dm 5 "NoFill" 0 "__init__" "NoFill.__init__", dm 6 "NoPhase" 0 "__init__" "NoPhase.__init__", dm 7 "NoRollout" 0 "__init__" "NoRollout.__init__", dm 9 "NoWord" 0 "__init__" "NoWord.__init__", dm 45 "Writer" 0 "__init__" "Writer.__init__", ⟨("Fill", some "__init__"), "__init__", "Fill.__init__", defArgs (inClass (top 47) 0), defBody (inClass (top 47) 0), defScope (inClass (top 47) 0), [], [("batch", .int 1), ("save", .str "last"), ("lock", .bl false), ("only_missing", .bl false), ("falls", .bl false), ("again", .bl false)]⟩, ⟨("Phase", some "__init__"), "__init__", "Phase.__init__", defArgs (inClass (top 48) 0), defBody (inClass (top 48) 0), defScope (inClass (top 48) 0), [], [("writers", .adr (kwA ("Phase", some "__init__") "writers")), ("fills", .bl false), ("promises", .adr (kwA ("Phase", some "__init__") "promises")), ("waits", .adr (kwA ("Phase", some "__init__") "waits"))]⟩, ⟨("Rollout", some "__init__"), "__init__", "Rollout.__init__", defArgs (inClass (top 53) 0), defBody (inClass (top 53) 0), defScope (inClass (top 53) 0), [], [("workers", .int 1), ("hands", .int 1), ("back", .adr (kwA ("Rollout", some "__init__") "back"))]⟩, dm 53 "Rollout" 1 "__len__" "Rollout.__len__"]
def fn : List He.DefD := fn0 ++ (fn1)
abbrev R : PySem.W.OpenRow := PySem.W.OpenLaw.row PySem.Challenge.rw_fillbehind_k55_what_sights_refuse
/-- the defs whose lambdas are made, the written dicts -/
def tf : List He.Defn := [("law", none)]
def ts : List He.Tab := [((fun K => ga K "PLACES"), ["set", "put", "insert", "delete"])]
/-- where the objects stand that are looked at -/
def as : List Addr := [3, 23, 24, 40, 41, 43, 44, 59, 60, 62, 63, 78, 79, 81, 82, 97, 98, 100, 101, 116, 117, 119, 120, 135, 136, 138, 139, 173, 174, 176, 177, 204, 205, 211, 212, 218, 219, 223, 224, 230, 231, 237, 238, 242, 243, 247, 248, 254, 255, 256, 257, 258, 259, 260, 261, 262, 263, 264, 265, 269, 270, 276, 277, 286, 287, 293, 294, 300, 301, 335, 336, 337, 343, 344, 348, 349, 355, 356, 367, 368, 377, 378, 388, 389, 397, 403, 404, 413, 414, 426, 427, 428, 429, 435, 436, 445, 446, 456, 457, 461, 462, 468, 469, 475, 476, 484, 485, 489, 490, 496, 497, 520, 521, 538, 539, 764, 765, 780, 788, 794, 795, 801, 802, 808, 809, 815, 816, 820, 821, 827, 828, 832, 833]
abbrev hk : PySem.W.Hook := HkL.hkL as fa fn ts tf ex
def ob (s : PySem.W.SharedT) : He.AlX := HkL.obL as fa fn ts tf ex (HandSHeadRun.getT s)
theorem ob_eq (s : PySem.W.SharedT) : ob s = hk.obs s.abs := HkL.obL_eq (HandSHeadRun.getT_eq s)
/-- the text about the dict of tuples -/
def cut : HkD.Cut := HkD.cutOf PySem.Challenge.pw_fillbehind_k55_what_sights_refuse.main.body 80 ⟨PySem.Challenge.pw_fillbehind_k55_what_sights_refuse.main.scope, 3, 3, [], ⟨#[]⟩, none, .ref 13, some 14, 0⟩ ⟨0, 0, 0, 0⟩ ⟨0, 0, 0, 0⟩
theorem cut_ok : cut.ok = true := by kernel_rfl
theorem pre (w : World) : HkD.PreD 12 cut R.prog w := by
  intro os
  kernel_rfl
theorem run1a (w : World) : HkD.RunAD R (PySem.W.view R.prog [111]) 12 20000 cut names (w.withFollow "special-get-raises" false) := by
  intro os
  kernel_rfl
theorem run1b (w : World) : HkD.RunBD R hk ob 12 20000 cut (w.withFollow "special-get-raises" false) := by
  intro os
  kernel_rfl
theorem run2a (w : World) : HkD.RunAD R (PySem.W.view R.prog [111]) 12 20000 cut names (w.withFollow "special-get-raises" true) := by
  intro os
  kernel_rfl
theorem run2b (w : World) : HkD.RunBD R hk ob 12 20000 cut (w.withFollow "special-get-raises" true) := by
  intro os
  kernel_rfl
theorem run (w : World) : HkD.RunD R (PySem.W.view R.prog [111]) hk ob 12 20000 cut names w := PySem.W.byRow2 "special-get-raises" (P := fun w => HkD.RunD R (PySem.W.view R.prog [111]) hk ob 12 20000 cut names w) (fun w => HkD.run_twoD (run1a w) (run1b w)) (fun w => HkD.run_twoD (run2a w) (run2b w)) w
end K55

set_option maxRecDepth 100000
set_option maxHeartbeats 4000000
/-! What every law's draws are made of: a list of three ints. -/
namespace L2
open PySem PySem.Spec PyProof.Rows
/-- two lists that are read, wherever they stand -/
def rCatR (K : PySem.W.Frag) : R2 := fun x y H Q => ∃ l b xs zs, x = .ref l ∧ y = .ref b ∧ SqL K H l xs ∧ SqL K H b zs ∧ xs.length + zs.length ≤ sizeLine ∧ ∀ p, H p = none → Q (.ref p) (upd H p (.lst (xs ++ zs)))
theorem op_catR {X : Cx} : OpR X (binaryOp .Add) (rCatR X.K) := by
  intro pins s σ H x y v u Q I rx ry h
  obtain ⟨l, b, xs, zs, rfl, rfl, a1, a2, few, q⟩ := h
  cases rx
  cases ry
  obtain ⟨i1, r1, ⟨⟨c1, d1, t1, s1⟩, n1, g1, p1, _, q1⟩, _⟩ := I.list a1
  obtain ⟨i2, r2, ⟨⟨c2, d2, t2, s2⟩, n2, g2, p2, _, q2⟩, _⟩ := I.list a2
  simp only at p1 q1 p2 q2
  subst p1 q1 p2 q2
  have ea : i1.toArray ++ i2.toArray = (i1 ++ i2).toArray := by simp
  refine PySem.concat_meets ⟨_, g1, rfl⟩ ⟨_, g2, rfl⟩ noFill_list_add seq_list_add PySem.F.slot_list_add PySem.F.entry_list_add (PySem.F.args_list_add_2 _ _)
    (list_addW l b i1.toArray i2.toArray n1 n2 d1 d2 s1 s2 (by rw [List.size_toArray, List.size_toArray, ← r1.length, ← r2.length]; omega)) ⟨g1, g2, ?_⟩
  rw [ea]
  exact ⟨.ref _, _, I.lnew (t' := s.toks) (r1.append r2) (by rw [List.length_append]; omega), rfl, q _ I.fresh⟩
/-- at a: a well -/
def Well (H : Hp) (a : Addr) : Prop := ∃ c b n : Int, H a = some (.lst [.int c, .int b, .int n])
/-- all but a is as it was -/
def But (a : Addr) (H H' : Hp) : Prop := ∀ b o, b ≠ a → H b = some o → H' b = some o
theorem But.same {a : Addr} {H H1 H' : Hp} (s : Same H H1) (h : But a H1 H') : But a H H' := fun b o n e => h b o n (s b o e)
theorem But.trans {a : Addr} {H H1 H' : Hp} (s : But a H H1) (h : But a H1 H') : But a H H' := fun b o n e => h b o n (s b o n e)
theorem But.upd {a : Addr} {H : Hp} {o : HO} : But a H (upd H a o) := fun b u n e => by rw [upd_ne n]; exact e
theorem But.of {a : Addr} {H H' : Hp} (s : Same H H') : But a H H' := fun b u _ e => s b u e
/-- the draw: an int below much -/
def spDraw : Sp := fun vs H Q _ => ∃ (a : Addr) (m : Int), vs = [.ref a, .int m] ∧ Well H a ∧ 0 < m ∧ m < 1073741824 ∧ ∀ (H' : Hp) (d : Int), 0 ≤ d → d < m → Well H' a → But a H H' → Q (.int d) H'
/-- the well of a number -/
def spWell (K : PySem.W.Frag) : Sp := fun vs H Q _ => ∃ (a : Addr) (ns : List Int) (k : Nat), vs = [.ref a, .int k] ∧ SqL K H a (ns.map V.int) ∧ ns.length ≤ 63 ∧ k ≤ 63 ∧ ∀ (H' : Hp) (p : Addr), H p = none → Well H' p → Same H H' → Q (.ref p) H'
/-- one of a list's items -/
def spOne (K : PySem.W.Frag) : Sp := fun vs H Q _ => ∃ (a l : Addr) (xs : List V), vs = [.ref a, .ref l] ∧ Well H a ∧ l ≠ a ∧ H l = some (.lst xs) ∧ 0 < xs.length ∧ xs.length < 1073741824 ∧ ∀ (H' : Hp) (x : V), x ∈ xs → Well H' a → But a H H' → Q x H'
theorem Same.new {H : Hp} {l : Addr} {o : HO} (n : H l = none) : Same H (upd H l o) := fun b u e => by
  rw [upd_ne (ne_of_none e n)]
  exact e
theorem Same.rd {H H' : Hp} {a : Addr} {u : HO} (e : Same H H') (r : Rd H a u) : Rd H' a u := by
  rcases r with r | ⟨o, r⟩
  · exact .inl (e _ _ r)
  · exact .inr ⟨o, e _ _ r⟩
theorem atI_some {α : Type} {xs : List α} {d : Int} (h0 : 0 ≤ d) (h1 : d < xs.length) : ∃ x, x ∈ xs ∧ atI xs d = some x := by
  obtain ⟨j, rfl⟩ : ∃ j : Nat, d = (j : Int) := ⟨d.toNat, by omega⟩
  have lt : j < xs.length := by omega
  exact ⟨xs[j], List.getElem_mem lt, atI_nat (List.getElem?_eq_getElem lt)⟩
end L2

set_option maxRecDepth 100000
set_option maxHeartbeats 4000000
/-! The promise of an own exception's __init__ that keeps its arguments as fields; making one. -/
namespace L2
open PySem PySem.Spec PyProof.Rows He
/-- .. new: its dict was not there in H -/
def IsExN (H H' : Hp) (a C : Addr) (fs : List (Str × V)) : Prop := (fs = [] ∧ H' a = some (exo a C none)) ∨ ∃ dx, H dx = none ∧ H' a = some (exo a C (some dx)) ∧ H' dx = some (exd dx fs)
theorem IsExN.is {H H' : Hp} {a C : Addr} {fs : List (Str × V)} (h : IsExN H H' a C fs) : IsEx H' a C fs := by
  rcases h with h | ⟨dx, _, h⟩
  · exact .inl h
  · exact .inr ⟨dx, h⟩
def spIni (K : PySem.W.Frag) (names : List Str) : Sp := fun vs H Q _ => ∃ (a C : Addr) (ws : List V), vs = .ref a :: ws ∧ ws.length = names.length ∧ OexC K C ∧ (∀ f ∈ names, PySem.W.findIn K (.ref C) f = some none) ∧
  H a = some (exo a C none) ∧ ∀ H', But a H H' → IsExN H H' a C (names.zip ws).reverse → Q .non H'
theorem ini1 {K : PySem.W.Frag} {f : Str} {vs : List V} {H : Hp} {Q : VK} {E : XK} (h : spIni K [f] vs H Q E) : ∃ (a C : Addr) (v : V), vs = [.ref a, v] ∧ OexC K C ∧ PySem.W.findIn K (.ref C) f = some none ∧ H a = some (exo a C none) ∧
    ∀ dx, H dx = none → dx ≠ a → Q .non (upd (upd H dx (exd dx [(f, v)])) a (exo a C (some dx))) := by
  obtain ⟨a, C, ws, rfl, l, T, no, ha, k⟩ := h
  match ws, l with
  | [v], _ =>
    refine ⟨a, C, v, rfl, T, no f (by simp), ha, fun dx n ne => k _ (fun b o hb e => ?_) (.inr ⟨dx, n, upd_same, ?_⟩)⟩
    · rw [upd_ne hb, upd_ne (ne_of_none e n)]
      exact e
    · rw [upd_ne ne]
      exact upd_same
theorem ini2 {K : PySem.W.Frag} {f g : Str} {vs : List V} {H : Hp} {Q : VK} {E : XK} (h : spIni K [f, g] vs H Q E) : ∃ (a C : Addr) (v u : V), vs = [.ref a, v, u] ∧ OexC K C ∧ PySem.W.findIn K (.ref C) f = some none ∧ PySem.W.findIn K (.ref C) g = some none ∧ H a = some (exo a C none) ∧
    ∀ dx, H dx = none → dx ≠ a → Q .non (upd (upd (upd H dx (exd dx [(f, v)])) a (exo a C (some dx))) dx (exd dx [(g, u), (f, v)])) := by
  obtain ⟨a, C, ws, rfl, l, T, no, ha, k⟩ := h
  match ws, l with
  | [v, u], _ =>
    refine ⟨a, C, v, u, rfl, T, no f (by simp), no g (by simp), ha, fun dx n ne => k _ (fun b o hb e => ?_) (.inr ⟨dx, n, ?_, upd_same⟩)⟩
    · rw [upd_ne (ne_of_none e n), upd_ne hb, upd_ne (ne_of_none e n)]
      exact e
    · rw [upd_ne (Ne.symm ne)]
      exact upd_same
theorem ini0 {K : PySem.W.Frag} {vs : List V} {H : Hp} {Q : VK} {E : XK} (h : spIni K [] vs H Q E) : ∃ a : Addr, vs = [.ref a] ∧ Q .non H := by
  obtain ⟨a, C, ws, rfl, l, T, no, ha, k⟩ := h
  match ws, l with
  | [], _ => exact ⟨a, rfl, k H (fun _ _ _ e => e) (.inl ⟨rfl, ha⟩)⟩
/-- how it binds by place -/
theorem KBn.of {K : PySem.W.Frag} {fd : FuncData} {ps : List Str} {n : Nat} (b : Binds K fd ps []) (l : ps.length = n) : KBn K fd ps n [] (fun us _ => us) (fun vs _ => vs) :=
  ⟨fun s us ws X l1 _ => by
    have h := b s us X (by rw [List.append_nil, l1, l])
    rw [List.append_nil] at h
    exact h, fun r _ => r⟩
/-- .. by name, without defaults -/
theorem FunD.byName {K : PySem.W.Frag} {x qual : Str} {params : Arguments} {body : List Stmt} {scope : Scope} {kws : List (Str × V)} {f : Addr} {fd : FuncData} {ps : List Str} (F : FunD K x qual params body scope [] kws f fd) (n : Nat) (ks : List Str) (g : {α : Type} → List α → List α → List α)
    (rel : ∀ {vs zs : List V} {us ws : List Value}, Vals vs us → Vals zs ws → Vals (g vs zs) (g us ws))
    (h : ∀ (kV doc pm : Value) (an : Option Addr) (cdv ct : Value) (us ws : List Value), us.length = n → ws.length = ks.length → bindArgs (PySem.W.fnOf x qual params body scope .none kV doc pm an cdv ct) ⟨us, ks.zip ws⟩ = pure (ps.zip (g us ws))) :
    KBn K fd ps n ks (fun us ws => g us ws) (fun vs zs => g vs zs) := by
  obtain ⟨oc, od, dV, kV, doc, pm, an, cdv, ct, osl, rfl, lk, hcd, hD, hK⟩ := F.ex
  rcases hD with ⟨_, rfl⟩ | ⟨e, _⟩
  · exact ⟨fun s us ws X l1 l2 => .of_eq (h kV doc pm an cdv ct us ws l1 l2), rel⟩
  · exact absurd rfl e
/-- the reading of C(..) -/
theorem read_mkX {K K' : PySem.W.Frag} {x : Str} {names : List Str} (T : VH.ClOk K x names) {H : Hp} {R : VK} {as : List V} {a : Addr} (ws : List V) (n : H a = none) (eK : K' = K) (l : ws.length = names.length) (hg : as = .ref a :: ws)
    (k : ∀ H', Same H H' → IsEx H' a (ga K x) (names.zip ws).reverse → R .non H') : spIni K' names as (upd H a (exo a (ga K x) none)) R E0 := by
  subst eK
  exact ⟨a, ga K' x, ws, hg, l, T.mkx.toOexC, T.no, upd_same, fun H' bt is => k H' (fun b o e => bt b o (ne_of_none e n) (by
    rw [upd_ne (ne_of_none e n)]
    exact e)) is.is⟩
/-- the reading of raise C(..): Q of the class, the dict, the heap with it -/
theorem read_raise {K K' : PySem.W.Frag} {x : Str} {names : List Str} (T : VH.ClOk K x names) {H : Hp} {Q : XK} {as : List V} {a : Addr} (ws : List V) (n : H a = none) (eK : K' = K) (l : ws.length = names.length) (ne : ws ≠ []) (hg : as = .ref a :: ws)
    (k : ∀ (d : Addr) (H' : Hp), H d = none → Same H H' → H' d = some (.xd (names.zip ws).reverse) → Q (.ref (ga K x)) (some d) H') :
    spIni K' names as (upd H a (exo a (ga K x) none)) (fun v H2 => v = .non ∧ ∃ (d : Addr) (fs : List (Str × V)), H2 a = some (exo a (ga K x) (some d)) ∧ H2 d = some (exd d fs) ∧ H d = none ∧ Q (.ref (ga K x)) (some d) (upd (del H2 a) d (.xd fs))) (fun _ _ _ => False) := by
  subst eK
  refine ⟨a, ga K' x, ws, hg, l, T.mkx.toOexC, T.no, upd_same, fun H' bt is => ⟨rfl, ?_⟩⟩
  rcases is with ⟨z, _⟩ | ⟨dx, nd, e1, e2⟩
  · exfalso
    match ws, names, l, ne with
    | w :: ws, f :: fs, _, _ => simp at z
    | w :: ws, [], l, _ => simp at l
    | [], _, _, ne => exact ne rfl
  · have da : dx ≠ a := fun z => by
      rw [z, upd_same] at nd
      cases nd
    have nd' : H dx = none := by
      rw [upd_ne da] at nd
      exact nd
    refine ⟨dx, _, e1, e2, nd', k dx _ nd' (fun b o e => ?_) upd_same⟩
    have ba' : b ≠ a := ne_of_none e n
    rw [upd_ne (ne_of_none e nd'), del_ne ba']
    exact bt b o ba' (by
      rw [upd_ne ba']
      exact e)
/-- a row of such objects: their classes' names, their fields -/
def ExL (K : PySem.W.Frag) (H : Hp) : List V → List (Str × List (Str × V)) → Prop
  | [], [] => True
  | v :: vs, c :: cs => (∃ a, v = .ref a ∧ IsEx H a (ga K c.1) c.2) ∧ ExL K H vs cs
  | _, _ => False
theorem ExL.same {K : PySem.W.Frag} {H H' : Hp} (e : Same H H') : ∀ {vs : List V} {cs : List (Str × List (Str × V))}, ExL K H vs cs → ExL K H' vs cs
  | [], [], _ => trivial
  | [], _ :: _, h => h.elim
  | _ :: _, [], h => h.elim
  | v :: vs, c :: cs, ⟨⟨a, z, is⟩, h⟩ => ⟨⟨a, z, is.same e⟩, ExL.same e h⟩
theorem ExL.snoc {K : PySem.W.Frag} {H H' : Hp} {a : Addr} {c : Str × List (Str × V)} (e : Same H H') (is : IsEx H' a (ga K c.1) c.2) : ∀ {vs : List V} {cs : List (Str × List (Str × V))}, ExL K H vs cs → ExL K H' (vs ++ [.ref a]) (cs ++ [c])
  | [], [], _ => ⟨⟨a, rfl, is⟩, trivial⟩
  | [], _ :: _, h => h.elim
  | _ :: _, [], h => h.elim
  | v :: vs, d :: cs, ⟨⟨b, z, is'⟩, h⟩ => ⟨⟨b, z, is'.same e⟩, ExL.snoc e is h⟩
theorem ExL.len {K : PySem.W.Frag} {H : Hp} : ∀ {vs : List V} {cs : List (Str × List (Str × V))}, ExL K H vs cs → vs.length = cs.length
  | [], [], _ => rfl
  | [], _ :: _, h => h.elim
  | _ :: _, [], h => h.elim
  | v :: vs, c :: cs, ⟨_, h⟩ => congrArg Nat.succ h.len
theorem ExL.at {K : PySem.W.Frag} {H : Hp} : ∀ {vs : List V} {cs : List (Str × List (Str × V))} {i : Nat} {c : Str × List (Str × V)}, ExL K H vs cs → cs[i]? = some c → ∃ a, vs[i]? = some (.ref a) ∧ IsEx H a (ga K c.1) c.2
  | [], [], _, _, _, e => by cases e
  | [], _ :: _, _, _, h, _ => h.elim
  | _ :: _, [], _, _, h, _ => h.elim
  | v :: vs, d :: cs, 0, c, ⟨⟨a, z, is⟩, _⟩, e => by
    have e' : d = c := Option.some.inj e
    rw [← e']
    exact ⟨a, congrArg some z, is⟩
  | v :: vs, d :: cs, i + 1, c, ⟨_, h⟩, e => ExL.at h (i := i) e
end L2

set_option maxRecDepth 100000
set_option maxHeartbeats 4000000
/-! A comparison by an own method, of an own instance with anything of a known type; whatever the method answers. -/
namespace L2
open PySem PySem.Spec PyProof.Rows
section
variable {X : Cx} {CX : CXT} {C g : Addr} {n : Nat} {sp : Sp} {E : XK} {op : CmpOp}
/-- x op y: x an instance of C, whose method for op has the promise sp; y's type is C, or known to be none below it -/
def rOwnA (K : PySem.W.Frag) (C : Addr) (sp : Sp) (E : XK) (X : Cx) : R2 := fun x y H Q =>
  ∃ (a : Addr) (t : Value), x = .ref a ∧ StX.InsC X H a C ∧ TyX K H y t ∧ PySem.W.notFirst K C t = true ∧ sp [x, y] H Q E
theorem op_ownA (hop : ∀ a b : Value, compareOp op a b = richCompare op a b)
    (hf : PySem.W.findIn X.K (.ref C) (cmpInfo op).2.1 = some (some (.ref g))) (fn : PySem.W.isFn X.K (.ref g) = true)
    (F : FnR X.prog X.w X.K X.mg X.base CX n g sp) (hr : Room n X.A) (hx : Passes CX X E) : OpR X (compareOp op) (rOwnA X.K C sp E X) := by
  intro pins s σ H x y v u Q I rx ry h
  obtain ⟨a, t, rfl, ia, ty, nf, q⟩ := h
  cases (show v = Value.ref a from rx)
  rw [hop]
  obtain ⟨ox, od, at_, _⟩ := StX.insC_at I ia
  obtain ⟨P, kx, hp, _⟩ := kit_of I ry ty
  obtain ⟨m, fr⟩ := I.fr
  have kin : X.K.In s.heap := PySem.W.Frag.In.keeps I.ok.mod.kin fr.keep
  have un : X.A.units < cLine := by
    have := hr.un
    omega
  refine PySem.W.cmp_K un fr I.ok.mod.kin at_ (kx.ty _ _ kin hp) nf hf fn (wpAny_call ?_)
  refine codeAny_mono (SlX.run_at F hr I.env0 hx I (.cons rx (.cons ry .nil)) q) fun r s' z => ?_
  split at z
  · obtain ⟨w', H', I', rw', q'⟩ := z
    exact SlX.cmpback rw' ⟨w', H', I', rw', q'⟩
  · exact z.elim
  · exact z
end
end L2

set_option maxRecDepth 100000
set_option maxHeartbeats 4000000
/-! != of an own instance whose class has an own __eq__ and object's __ne__, with anything of a known type. -/
namespace PySem.W
open PySem PySem.Spec PySem.Calls PyProof.Rows
section
variable {prog : Program} {w : World} {A : Around} {E : Value → Shared → Prop} {s : Shared} {K : Frag} {x C g : Addr} {ox : Obj} {od : Option Obj} {b : Value}
theorem ifBound_ne {Q : Option Value → Shared → Prop} (hu : A.units + 1 < cLine) (X : K.In s.heap) (I : InstAt s.heap x ox C od)
    (hn : findIn K (.ref C) "__ne__" = some (some (.builtin "object.__ne__"))) (ho : subIn K (.ref C) (.type "object") = some true)
    (he : findIn K (.ref C) "__eq__" = some (some (.ref g))) (fn : isFn K (.ref g) = true)
    (h : wpAny (model prog w) A.in1 (call (.ref g) [.ref x, b]) (fun v s' => ∃ c, v = .bool c ∧ Q (some (.bool !c)) s') E s) :
    wpAny (model prog w) A (callSpecialIfBound? (.ref x) "__ne__" [b]) Q E s := by
  have fin : wpAny (model prog w) A (call (.builtin "object.__ne__") ([.ref x] ++ [b]) >>= fun r => pure (some r)) Q E s := by
    refine wpAny_bind (wpAny_call (codeAny_call_builtin PySem.F.slot_object_ne.plain PySem.F.entry_object_ne ?_))
    have sub : Looks (model prog w) s.heap (isInstance (.ref x) (.type "object")) true := (I.type (M := model prog w)).andThen (looks_subIn X ho)
    refine check_slot (n := "__ne__") (owner := "object") (by decide +kernel) (by decide +kernel) sub (PySem.F.args_object_ne_2 (.ref x) b) ?_
    unfold Builtin.«object.__ne__»
    refine wpAny_bind (wpAny_of_eq (a := ((Value.ref x : Value), [b])) (by
      first | rfl | (simp only [slotArgs]; rfl)) ?_)
    refine wpAny_bind (wpAny_cRoomFor hu ?_)
    refine wpAny_bind (ifBound_K X I he fn (wpAny_mono h (fun v s' z => ?_) (fun _ _ z => z)))
    obtain ⟨c, rfl, q⟩ := z
    show wpAny _ _ (truthy (.bool c) >>= fun t => ret (.bool !t)) _ _ _
    refine wpAny_bind (wpAny_of_eq (a := c) (by rfl) ?_)
    exact wpAny_pure (wpAny_pure q)
  unfold callSpecialIfBound? bindSpecialIfBound? specialOf
  refine wpAny_holding (wpAny_bind (wpAny_bind (wpAny_bind ((I.type (M := model prog w)).here ((looks_findIn (M := model prog w) X hn).here ?_)))))
  refine wpAny_bind (wpAny_askSetting ?_)
  have bnd : bindSpecial (Value.builtin "object.__ne__") (.ref x) = pure (Value.builtin "object.__ne__", [.ref x]) := PySem.F.slot_object_ne.bind _
  show wpAny _ _ (if _ then _ else _) _ _ _
  rw [bnd]
  refine wpAny_ite ?_
  split
  · exact wpAny_bind (wpAny_pure (wpAny_pure fin))
  · exact wpAny_tryCatch (wpAny_bind (wpAny_pure (wpAny_pure fin)))
end
end PySem.W
namespace PySem.W
open PySem PySem.Spec PySem.Calls PyProof.Rows
section
variable {prog : Program} {w : World} {A : Around} {E : Value → Shared → Prop} {s : Shared} {K : Frag} {x C g : Addr} {ox : Obj} {od : Option Obj} {b tb : Value}
theorem cmp_ne {Q : Value → Shared → Prop} (hu : A.units + 1 < cLine) (X : K.In s.heap) (I : InstAt s.heap x ox C od)
    (hb : Looks (model prog w) s.heap (typeOf b) tb) (nf : notFirst K C tb = true)
    (hn : findIn K (.ref C) "__ne__" = some (some (.builtin "object.__ne__"))) (ho : subIn K (.ref C) (.type "object") = some true)
    (he : findIn K (.ref C) "__eq__" = some (some (.ref g))) (fn : isFn K (.ref g) = true)
    (h : wpAny (model prog w) A.in1 (call (.ref g) [.ref x, b]) (fun v s' => ∃ c, v = .bool c ∧ Q (.bool !c) s') E s) :
    wpAny (model prog w) A (richCompare .NotEq (.ref x) b) Q E s := by
  have one : wpAny (model prog w) A (tryCompare (.ref x) "__ne__" b) (fun r s' => ∃ v, r = some v ∧ Q v s') E s := by
    unfold tryCompare
    refine wpAny_bind (ifBound_ne hu X I hn ho he fn (wpAny_mono h (fun v s' z => ?_) (fun _ _ z => z)))
    obtain ⟨c, rfl, q⟩ := z
    exact ⟨c, rfl, wpAny_pure ⟨_, rfl, q⟩⟩
  unfold richCompare
  refine wpAny_holding (wpAny_bind (wpAny_cRoomFor (by omega) ?_))
  refine wpAny_bind ((I.type (M := model prog w)).here (wpAny_bind (hb.here ?_)))
  unfold notFirst at nf
  refine wpAny_ite ?_
  split
  · rename_i ne
    have sb : subIn K tb (.ref C) = some false := by
      rcases Bool.or_eq_true_iff.mp nf with q | q
      · have e : tb = .ref C := eq_of_beq q
        subst e
        simp at ne
      · exact eq_of_beq q
    refine wpAny_bind ((looks_subIn X sb).here ?_)
    show wpAny _ _ (tryCompare (.ref x) "__ne__" b >>= _) _ _ _
    exact wpAny_bind (wpAny_mono one (fun r s' z => by
      obtain ⟨v, rfl, q⟩ := z
      exact wpAny_pure q) (fun _ _ z => z))
  · refine wpAny_bind (wpAny_pure ?_)
    show wpAny _ _ (tryCompare (.ref x) "__ne__" b >>= _) _ _ _
    exact wpAny_bind (wpAny_mono one (fun r s' z => by
      obtain ⟨v, rfl, q⟩ := z
      exact wpAny_pure q) (fun _ _ z => z))
end
end PySem.W
namespace L2
open PySem PySem.Spec PyProof.Rows
section
variable {X : Cx} {CX : CXT} {C g : Addr} {n : Nat} {sp : Sp} {E : XK}
/-- x != y by C's own __eq__ -/
def rNeA (K : PySem.W.Frag) (C : Addr) (sp : Sp) (E : XK) (X : Cx) : R2 := fun x y H Q =>
  ∃ (a : Addr) (t : Value), x = .ref a ∧ StX.InsC X H a C ∧ TyX K H y t ∧ PySem.W.notFirst K C t = true ∧
    sp [x, y] H (fun z H' => ∃ c : Bool, z = .bl c ∧ Q (.bl !c) H') E
theorem op_neA (hn : PySem.W.findIn X.K (.ref C) "__ne__" = some (some (.builtin "object.__ne__"))) (ho : PySem.W.subIn X.K (.ref C) (.type "object") = some true)
    (he : PySem.W.findIn X.K (.ref C) "__eq__" = some (some (.ref g))) (fn : PySem.W.isFn X.K (.ref g) = true)
    (F : FnR X.prog X.w X.K X.mg X.base CX n g sp) (hr : Room (n + 1) X.A) (hx : Passes CX X E) : OpR X (compareOp .NotEq) (rNeA X.K C sp E X) := by
  intro pins s σ H x y v u Q I rx ry h
  obtain ⟨a, t, rfl, ia, ty, nf, q⟩ := h
  cases (show v = Value.ref a from rx)
  show wpAny _ _ (richCompare .NotEq _ _) _ _ _
  obtain ⟨ox, od, at_, _⟩ := StX.insC_at I ia
  obtain ⟨P, kx, hp, _⟩ := kit_of I ry ty
  obtain ⟨m, fr⟩ := I.fr
  have kin : X.K.In s.heap := PySem.W.Frag.In.keeps I.ok.mod.kin fr.keep
  have un : X.A.units + 1 < cLine := by
    have := hr.un
    omega
  have sub : Sub X n X.A.in1 := Sub.in1 ⟨hr, rfl⟩
  have en : Env0 X.prog X.w X.K X.mg X.base X.A.in1 X.stack s H := by
    have e := I.env0
    exact ⟨e.frames, e.mod, e.bs, e.bsz, e.funs, e.frf, e.hok, e.bare⟩
  refine PySem.W.cmp_ne un kin at_ (kx.ty _ _ kin hp) nf hn ho he fn (wpAny_call ?_)
  refine codeAny_mono (SlX.run_at F sub.room en hx I (.cons rx (.cons ry .nil)) q) fun r s' z => ?_
  split at z
  · obtain ⟨w', H', I', rw', c, rfl, q'⟩ := z
    exact ⟨c, rw', .bl !c, H', I', rfl, q'⟩
  · exact z.elim
  · exact z
end
end L2

set_option maxRecDepth 100000
set_option maxHeartbeats 4000000
namespace L2
open PySem PySem.Spec PyProof.Rows He
/-- the reading of raise C(..) -/
theorem read_rz {K K' : PySem.W.Frag} {x : Str} {names : List Str} (T : VH.ClOk K x names) {H : Hp} {R : VK} {as : List V} {a : Addr} (ws : List V) (n : H a = none) (eK : K' = K) (l : ws.length = names.length) (ne : ws ≠ []) (hg : as = .ref a :: ws)
    (k : ∀ (d : Addr) (H2 : Hp), H2 a = some (exo a (ga K x) (some d)) → H2 d = some (exd d (names.zip ws).reverse) → H d = none → Same H (upd (del H2 a) d (.xd (names.zip ws).reverse)) → R .non H2) :
    spIni K' names as (upd H a (exo a (ga K x) none)) R (fun _ _ _ => False) := by
  subst eK
  refine ⟨a, ga K' x, ws, hg, l, T.mkx.toOexC, T.no, upd_same, fun H' bt is => ?_⟩
  rcases is with ⟨z, _⟩ | ⟨dx, nd, e1, e2⟩
  · exfalso
    match ws, names, l, ne with
    | w :: ws, f :: fs, _, _ => simp at z
    | w :: ws, [], l, _ => simp at l
    | [], _, _, ne => exact ne rfl
  · have da : dx ≠ a := fun z => by
      rw [z, upd_same] at nd
      cases nd
    have nd' : H dx = none := by
      rw [upd_ne da] at nd
      exact nd
    refine k dx H' e1 e2 nd' (fun b o e => ?_)
    have ba' : b ≠ a := ne_of_none e n
    rw [upd_ne (ne_of_none e nd'), del_ne ba']
    exact bt b o ba' (by
      rw [upd_ne ba']
      exact e)
end L2

set_option maxRecDepth 100000
set_option maxHeartbeats 4000000
namespace K55
open PySem PySem.Spec PyProof.Rows L2 He VH
abbrev FnP (K : PySem.W.Frag) (x : Str) (st : Stmt) (f : Addr) (fd : FuncData) : Prop := FunD K x x (defArgs st) (defBody st) (defScope st) [] [] f fd
abbrev FnM (K : PySem.W.Frag) (m q : Str) (i j : Nat) (f : Addr) (fd : FuncData) : Prop := FunD K m q (defArgs (inClass (top i) j)) (defBody (inClass (top i) j)) (defScope (inClass (top i) j)) [] [] f fd
/-- what the written part says -/
structure Txt (K : PySem.W.Frag) (mg : Str → Option Value) (w : World) : Prop where
  x_NoStatement : ClOk K "NoStatement" []
  m_NoStatement : mg "NoStatement" = some (.ref (ga K "NoStatement"))
  x_NoNumber : ClOk K "NoNumber" ["part"]
  m_NoNumber : mg "NoNumber" = some (.ref (ga K "NoNumber"))
  x_NoWriter : ClOk K "NoWriter" ["part", "index"]
  m_NoWriter : mg "NoWriter" = some (.ref (ga K "NoWriter"))
  x_NoFill : ClOk K "NoFill" ["part"]
  m_NoFill : mg "NoFill" = some (.ref (ga K "NoFill"))
  x_NoPhase : ClOk K "NoPhase" ["part"]
  m_NoPhase : mg "NoPhase" = some (.ref (ga K "NoPhase"))
  x_NoRollout : ClOk K "NoRollout" ["part", "index"]
  m_NoRollout : mg "NoRollout" = some (.ref (ga K "NoRollout"))
  x_NoWord : ClOk K "NoWord" ["word"]
  m_NoWord : mg "NoWord" = some (.ref (ga K "NoWord"))
  t_CHECKS : ∀ H, SqT K H (ga K "CHECKS") ((["missing", "same old", "same new"] : List Str).map V.str)
  t_READING : ∀ H, SqT K H (ga K "READING") ((["put", "read", "copy", "same old", "same new"] : List Str).map V.str)
  t_TAKING : ∀ H, SqT K H (ga K "TAKING") ((["insert", "input"] : List Str).map V.str)
  t_SAVES : ∀ H, SqT K H (ga K "SAVES") ((["last", "first"] : List Str).map V.str)
  t_PROMISES : ∀ H, SqT K H (ga K "PROMISES") ((["right", "mild", "kept", "once"] : List Str).map V.str)
  t_WAITS : ∀ H, SqT K H (ga K "WAITS") ((["done", "drained"] : List Str).map V.str)
  t_LOOKS : ∀ H, SqT K H (ga K "LOOKS") ((["absent", "missing", "right", "wrong"] : List Str).map V.str)
  d_PLACES_set : Ent K "PLACES" "set" [["keep", "input", "read"], ["keep", "none", "now", "read", "copy"]]
  d_PLACES_put : Ent K "PLACES" "put" [["none", "now", "read", "copy"]]
  d_PLACES_insert : Ent K "PLACES" "insert" [["none", "now"]]
  d_PLACES_delete : Ent K "PLACES" "delete" []
  ks_PLACES : ∀ z : Str, (["set", "put", "insert", "delete"] : List Str).contains z = false → PySem.W.nsIn K (ga K "PLACES") z = some none
  o_Writer : OwnC K "Writer"
  o_Fill : OwnC K "Fill"
  o_Phase : OwnC K "Phase"
  o_Rollout : OwnC K "Rollout"
  k_Phase_writers : ∀ H, SqT K H (kwA ("Phase", some "__init__") "writers" K) []
  k_Phase_promises : ∀ H, SqT K H (kwA ("Phase", some "__init__") "promises" K) []
  k_Phase_waits : ∀ H, SqT K H (kwA ("Phase", some "__init__") "waits" K) []
  k_Rollout_back : ∀ H, SqT K H (kwA ("Rollout", some "__init__") "back" K) []
  kn : ∀ c ∈ (["Writer", "Fill", "Phase", "Rollout"] : List Str), ∀ d ∈ (["Writer", "Fill", "Phase", "Rollout"] : List Str), PySem.W.kitOne K (.ref (ga K c)) (.ref (ga K d)) = some (d == c)
  xm : ∀ c ∈ (["NoStatement", "NoNumber", "NoWriter", "NoFill", "NoPhase", "NoRollout", "NoWord"] : List Str), ∀ d ∈ (["NoStatement", "NoNumber", "NoWriter", "NoFill", "NoPhase", "NoRollout", "NoWord", "FillError"] : List Str), PySem.W.exmOne K (.ref (ga K c)) (.ref (ga K d)) = some (d == c || d == "FillError")
  dc1 : PySem.W.specialIn K (.builtin "object.__class__") "__get__" = some (some (.builtin "getset_descriptor.__get__"))
  dc2 : PySem.W.takesIn K (.builtin "object.__class__") = some true
  dict_PLACES : ∃ es n, KDict K w (ga K "PLACES") es n
  m_FillError : mg "FillError" = some (.ref (ga K "FillError"))
  m_is_integer : mg "is_integer" = some (.ref (ga K "is_integer"))
  m_is_between : mg "is_between" = some (.ref (ga K "is_between"))
  m_is_word : mg "is_word" = some (.ref (ga K "is_word"))
  m_are_words : mg "are_words" = some (.ref (ga K "are_words"))
  m_is_sequence : mg "is_sequence" = some (.ref (ga K "is_sequence"))
  m_is_sized : mg "is_sized" = some (.ref (ga K "is_sized"))
  m_is_name : mg "is_name" = some (.ref (ga K "is_name"))
  m_are_names : mg "are_names" = some (.ref (ga K "are_names"))
  m_is_statement : mg "is_statement" = some (.ref (ga K "is_statement"))
  m_checks_of : mg "checks_of" = some (.ref (ga K "checks_of"))
  m_has_word : mg "has_word" = some (.ref (ga K "has_word"))
  m_needs_read : mg "needs_read" = some (.ref (ga K "needs_read"))
  m_needs_input : mg "needs_input" = some (.ref (ga K "needs_input"))
  m_is_read : mg "is_read" = some (.ref (ga K "is_read"))
  m_is_behind_read : mg "is_behind_read" = some (.ref (ga K "is_behind_read"))
  m_step_fits : mg "step_fits" = some (.ref (ga K "step_fits"))
  m_is_fill_statement : mg "is_fill_statement" = some (.ref (ga K "is_fill_statement"))
  m_wrong_writer : mg "wrong_writer" = some (.ref (ga K "wrong_writer"))
  m_wrong_phase : mg "wrong_phase" = some (.ref (ga K "wrong_phase"))
  m_is_way : mg "is_way" = some (.ref (ga K "is_way"))
  m_wrong_way : mg "wrong_way" = some (.ref (ga K "wrong_way"))
  m_check_rollout : mg "check_rollout" = some (.ref (ga K "check_rollout"))
  m_check_most : mg "check_most" = some (.ref (ga K "check_most"))
  m_sight : mg "sight" = some (.ref (ga K "sight"))
  m_l_draw : mg "_law_draw" = some (.ref (ga K "_law_draw"))
  m_l_well : mg "_law_well" = some (.ref (ga K "_law_well"))
  m_l_one : mg "_law_one" = some (.ref (ga K "_law_one"))
  m_l_careful : mg "_law_careful" = some (.ref (ga K "_law_careful"))
  m_l_said : mg "_law_said" = some (.ref (ga K "_law_said"))
  m_law : mg "law" = some (.ref (ga K "law"))
  m_CHECKS : mg "CHECKS" = some (.ref (ga K "CHECKS"))
  m_READING : mg "READING" = some (.ref (ga K "READING"))
  m_TAKING : mg "TAKING" = some (.ref (ga K "TAKING"))
  m_SAVES : mg "SAVES" = some (.ref (ga K "SAVES"))
  m_PROMISES : mg "PROMISES" = some (.ref (ga K "PROMISES"))
  m_WAITS : mg "WAITS" = some (.ref (ga K "WAITS"))
  m_LOOKS : mg "LOOKS" = some (.ref (ga K "LOOKS"))
  m_PLACES : mg "PLACES" = some (.ref (ga K "PLACES"))
  m_Writer : mg "Writer" = some (.ref (ga K "Writer"))
  m_Fill : mg "Fill" = some (.ref (ga K "Fill"))
  m_Phase : mg "Phase" = some (.ref (ga K "Phase"))
  m_Rollout : mg "Rollout" = some (.ref (ga K "Rollout"))
  g_len : mg "len" = none
  g_int : mg "int" = none
  g_range : mg "range" = none
  g_isinstance : mg "isinstance" = none
  g_tuple : mg "tuple" = none
  g_bool : mg "bool" = none
  g_str : mg "str" = none
  g_list : mg "list" = none
  g_all : mg "all" = none
  g_any : mg "any" = none
  g_zip : mg "zip" = none
  g_set : mg "set" = none
  g_enumerate : mg "enumerate" = none
  g_min : mg "min" = none
  g_ValueError : mg "ValueError" = none
  g_next : mg "next" = none
  s_LETTERS : ∃ t, mg "LETTERS" = some (.str "abcdefghijklmnopqrstuvwxyz" t)
  c_Writer : Cls K (ga K "Writer")
  n_Writer_name : PySem.W.findIn K (.ref (ga K "Writer")) "name" = some none
  n_Writer_needs_input : PySem.W.findIn K (.ref (ga K "Writer")) "needs_input" = some none
  n_Writer_steps : PySem.W.findIn K (.ref (ga K "Writer")) "steps" = some none
  h_Writer_init : Meth K (ga K "Writer") "__init__" (ma K (ga K "Writer") "__init__")
  mk_Writer : Mk K (ga K "Writer") (ma K (ga K "Writer") "__init__")
  c_Fill : Cls K (ga K "Fill")
  n_Fill_again : PySem.W.findIn K (.ref (ga K "Fill")) "again" = some none
  n_Fill_batch : PySem.W.findIn K (.ref (ga K "Fill")) "batch" = some none
  n_Fill_falls : PySem.W.findIn K (.ref (ga K "Fill")) "falls" = some none
  n_Fill_lock : PySem.W.findIn K (.ref (ga K "Fill")) "lock" = some none
  n_Fill_only_missing : PySem.W.findIn K (.ref (ga K "Fill")) "only_missing" = some none
  n_Fill_save : PySem.W.findIn K (.ref (ga K "Fill")) "save" = some none
  n_Fill_statement : PySem.W.findIn K (.ref (ga K "Fill")) "statement" = some none
  h_Fill_init : Meth K (ga K "Fill") "__init__" (ma K (ga K "Fill") "__init__")
  mk_Fill : Mk K (ga K "Fill") (ma K (ga K "Fill") "__init__")
  c_Phase : Cls K (ga K "Phase")
  n_Phase_fills : PySem.W.findIn K (.ref (ga K "Phase")) "fills" = some none
  n_Phase_name : PySem.W.findIn K (.ref (ga K "Phase")) "name" = some none
  n_Phase_promises : PySem.W.findIn K (.ref (ga K "Phase")) "promises" = some none
  n_Phase_waits : PySem.W.findIn K (.ref (ga K "Phase")) "waits" = some none
  n_Phase_writers : PySem.W.findIn K (.ref (ga K "Phase")) "writers" = some none
  h_Phase_init : Meth K (ga K "Phase") "__init__" (ma K (ga K "Phase") "__init__")
  mk_Phase : Mk K (ga K "Phase") (ma K (ga K "Phase") "__init__")
  c_Rollout : Cls K (ga K "Rollout")
  n_Rollout_back : PySem.W.findIn K (.ref (ga K "Rollout")) "back" = some none
  n_Rollout_counts : PySem.W.findIn K (.ref (ga K "Rollout")) "counts" = some none
  n_Rollout_fill : PySem.W.findIn K (.ref (ga K "Rollout")) "fill" = some none
  n_Rollout_hands : PySem.W.findIn K (.ref (ga K "Rollout")) "hands" = some none
  n_Rollout_keeps : PySem.W.findIn K (.ref (ga K "Rollout")) "keeps" = some none
  n_Rollout_phases : PySem.W.findIn K (.ref (ga K "Rollout")) "phases" = some none
  n_Rollout_workers : PySem.W.findIn K (.ref (ga K "Rollout")) "workers" = some none
  n_Rollout_writers : PySem.W.findIn K (.ref (ga K "Rollout")) "writers" = some none
  h_Rollout_init : Meth K (ga K "Rollout") "__init__" (ma K (ga K "Rollout") "__init__")
  h_Rollout_len : Meth K (ga K "Rollout") "__len__" (ma K (ga K "Rollout") "__len__")
  mk_Rollout : Mk K (ga K "Rollout") (ma K (ga K "Rollout") "__init__")
theorem txt_of {w : World} {K : PySem.W.Frag} {h : Heap} {mg : Str → Option Value} (X : K.In h) (G : h.Ns mainGlobals mg) (cx : He.SaysX fa fn ts tf ex w h K) : Txt K mg w := by
  have g : SaysD fa fn K := cx.t.d
  have e := cx.more
  unfold ex at e
  obtain ⟨e0, z0⟩ := ba e
  obtain ⟨e1, z1⟩ := ba z0
  obtain ⟨e2, z2⟩ := ba z1
  obtain ⟨e3, z3⟩ := ba z2
  obtain ⟨e4, z4⟩ := ba z3
  obtain ⟨e5, z5⟩ := ba z4
  obtain ⟨e6, z6⟩ := ba z5
  obtain ⟨e7, z7⟩ := ba z6
  obtain ⟨e8, z8⟩ := ba z7
  obtain ⟨e9, z9⟩ := ba z8
  obtain ⟨e10, z10⟩ := ba z9
  obtain ⟨e11, z11⟩ := ba z10
  obtain ⟨e12, z12⟩ := ba z11
  obtain ⟨e13, z13⟩ := ba z12
  obtain ⟨e14, z14⟩ := ba z13
  obtain ⟨e15, z15⟩ := ba z14
  obtain ⟨e16, z16⟩ := ba z15
  obtain ⟨e17, z17⟩ := ba z16
  obtain ⟨e18, z18⟩ := ba z17
  obtain ⟨e19, z19⟩ := ba z18
  obtain ⟨e20, z20⟩ := ba z19
  obtain ⟨e21, z21⟩ := ba z20
  obtain ⟨e22, z22⟩ := ba z21
  obtain ⟨e23, z23⟩ := ba z22
  obtain ⟨e24, z24⟩ := ba z23
  obtain ⟨e25, z25⟩ := ba z24
  obtain ⟨e26, z26⟩ := ba z25
  obtain ⟨e27, z27⟩ := ba z26
  obtain ⟨e28, z28⟩ := ba z27
  unfold dcB at e0
  obtain ⟨q1, q2⟩ := ba e0
  exact { x_NoStatement := clB_ok e1, m_NoStatement := PySem.W.mg_of X G (clB_ok e1).gl, x_NoNumber := clB_ok e2, m_NoNumber := PySem.W.mg_of X G (clB_ok e2).gl, x_NoWriter := clB_ok e3, m_NoWriter := PySem.W.mg_of X G (clB_ok e3).gl, x_NoFill := clB_ok e4, m_NoFill := PySem.W.mg_of X G (clB_ok e4).gl, x_NoPhase := clB_ok e5, m_NoPhase := PySem.W.mg_of X G (clB_ok e5).gl, x_NoRollout := clB_ok e6, m_NoRollout := PySem.W.mg_of X G (clB_ok e6).gl, x_NoWord := clB_ok e7, m_NoWord := PySem.W.mg_of X G (clB_ok e7).gl, t_CHECKS := tupB_ok e8, t_READING := tupB_ok e9, t_TAKING := tupB_ok e10, t_SAVES := tupB_ok e11, t_PROMISES := tupB_ok e12, t_WAITS := tupB_ok e13, t_LOOKS := tupB_ok e14, d_PLACES_set := entB_ok e15, d_PLACES_put := entB_ok e16, d_PLACES_insert := entB_ok e17, d_PLACES_delete := entB_ok e18, ks_PLACES := fun _ h => keysB_ok e19 h, o_Writer := ownB_ok e20, o_Fill := ownB_ok e21, o_Phase := ownB_ok e22, o_Rollout := ownB_ok e23, k_Phase_writers := tupB_ok (ws := []) e24, k_Phase_promises := tupB_ok (ws := []) e25, k_Phase_waits := tupB_ok (ws := []) e26, k_Rollout_back := tupB_ok (ws := []) e27, kn := fun c hc x hx => of_decide_eq_true (List.all_eq_true.mp (List.all_eq_true.mp e28 c hc) x hx), xm := fun c hc x hx => of_decide_eq_true (List.all_eq_true.mp (List.all_eq_true.mp z28 c hc) x hx), dc1 := of_decide_eq_true q1, dc2 := of_decide_eq_true q2, dict_PLACES := cx.t.tab 0, m_FillError := glo_ok X G (g.fact 0 (f := .glo "FillError") rfl), m_is_integer := glo_ok X G (g.fact 1 (f := .glo "is_integer") rfl), m_is_between := glo_ok X G (g.fact 2 (f := .glo "is_between") rfl), m_is_word := glo_ok X G (g.fact 3 (f := .glo "is_word") rfl), m_are_words := glo_ok X G (g.fact 4 (f := .glo "are_words") rfl), m_is_sequence := glo_ok X G (g.fact 5 (f := .glo "is_sequence") rfl), m_is_sized := glo_ok X G (g.fact 6 (f := .glo "is_sized") rfl), m_is_name := glo_ok X G (g.fact 7 (f := .glo "is_name") rfl), m_are_names := glo_ok X G (g.fact 8 (f := .glo "are_names") rfl), m_is_statement := glo_ok X G (g.fact 9 (f := .glo "is_statement") rfl), m_checks_of := glo_ok X G (g.fact 10 (f := .glo "checks_of") rfl), m_has_word := glo_ok X G (g.fact 11 (f := .glo "has_word") rfl), m_needs_read := glo_ok X G (g.fact 12 (f := .glo "needs_read") rfl), m_needs_input := glo_ok X G (g.fact 13 (f := .glo "needs_input") rfl), m_is_read := glo_ok X G (g.fact 14 (f := .glo "is_read") rfl), m_is_behind_read := glo_ok X G (g.fact 15 (f := .glo "is_behind_read") rfl), m_step_fits := glo_ok X G (g.fact 16 (f := .glo "step_fits") rfl), m_is_fill_statement := glo_ok X G (g.fact 17 (f := .glo "is_fill_statement") rfl), m_wrong_writer := glo_ok X G (g.fact 18 (f := .glo "wrong_writer") rfl), m_wrong_phase := glo_ok X G (g.fact 19 (f := .glo "wrong_phase") rfl), m_is_way := glo_ok X G (g.fact 20 (f := .glo "is_way") rfl), m_wrong_way := glo_ok X G (g.fact 21 (f := .glo "wrong_way") rfl), m_check_rollout := glo_ok X G (g.fact 22 (f := .glo "check_rollout") rfl), m_check_most := glo_ok X G (g.fact 23 (f := .glo "check_most") rfl), m_sight := glo_ok X G (g.fact 24 (f := .glo "sight") rfl), m_l_draw := glo_ok X G (g.fact 25 (f := .glo "_law_draw") rfl), m_l_well := glo_ok X G (g.fact 26 (f := .glo "_law_well") rfl), m_l_one := glo_ok X G (g.fact 27 (f := .glo "_law_one") rfl), m_l_careful := glo_ok X G (g.fact 28 (f := .glo "_law_careful") rfl), m_l_said := glo_ok X G (g.fact 29 (f := .glo "_law_said") rfl), m_law := glo_ok X G (g.fact 30 (f := .glo "law") rfl), m_CHECKS := glo_ok X G (g.fact 31 (f := .glo "CHECKS") rfl), m_READING := glo_ok X G (g.fact 32 (f := .glo "READING") rfl), m_TAKING := glo_ok X G (g.fact 33 (f := .glo "TAKING") rfl), m_SAVES := glo_ok X G (g.fact 34 (f := .glo "SAVES") rfl), m_PROMISES := glo_ok X G (g.fact 35 (f := .glo "PROMISES") rfl), m_WAITS := glo_ok X G (g.fact 36 (f := .glo "WAITS") rfl), m_LOOKS := glo_ok X G (g.fact 37 (f := .glo "LOOKS") rfl), m_PLACES := glo_ok X G (g.fact 38 (f := .glo "PLACES") rfl), m_Writer := glo_ok X G (g.fact 39 (f := .glo "Writer") rfl), m_Fill := glo_ok X G (g.fact 40 (f := .glo "Fill") rfl), m_Phase := glo_ok X G (g.fact 41 (f := .glo "Phase") rfl), m_Rollout := glo_ok X G (g.fact 42 (f := .glo "Rollout") rfl), g_len := free_ok X G (g.fact 43 (f := .free "len") rfl), g_int := free_ok X G (g.fact 44 (f := .free "int") rfl), g_range := free_ok X G (g.fact 45 (f := .free "range") rfl), g_isinstance := free_ok X G (g.fact 46 (f := .free "isinstance") rfl), g_tuple := free_ok X G (g.fact 47 (f := .free "tuple") rfl), g_bool := free_ok X G (g.fact 48 (f := .free "bool") rfl), g_str := free_ok X G (g.fact 49 (f := .free "str") rfl), g_list := free_ok X G (g.fact 50 (f := .free "list") rfl), g_all := free_ok X G (g.fact 51 (f := .free "all") rfl), g_any := free_ok X G (g.fact 52 (f := .free "any") rfl), g_zip := free_ok X G (g.fact 53 (f := .free "zip") rfl), g_set := free_ok X G (g.fact 54 (f := .free "set") rfl), g_enumerate := free_ok X G (g.fact 55 (f := .free "enumerate") rfl), g_min := free_ok X G (g.fact 56 (f := .free "min") rfl), g_ValueError := free_ok X G (g.fact 57 (f := .free "ValueError") rfl), g_next := free_ok X G (g.fact 58 (f := .free "next") rfl), s_LETTERS := str_ok X G (g.fact 59 (f := .str "LETTERS" "abcdefghijklmnopqrstuvwxyz") rfl), c_Writer := cls_ok (g.fact 60 (f := .cls "Writer") rfl), n_Writer_name := noat_ok (g.fact 61 (f := .noat "Writer" "name") rfl), n_Writer_needs_input := noat_ok (g.fact 62 (f := .noat "Writer" "needs_input") rfl), n_Writer_steps := noat_ok (g.fact 63 (f := .noat "Writer" "steps") rfl), h_Writer_init := meth_ok (g.fact 64 (f := .meth "Writer" "__init__") rfl), mk_Writer := mkr_ok (g.fact 65 (f := .mkr "Writer") rfl), c_Fill := cls_ok (g.fact 66 (f := .cls "Fill") rfl), n_Fill_again := noat_ok (g.fact 67 (f := .noat "Fill" "again") rfl), n_Fill_batch := noat_ok (g.fact 68 (f := .noat "Fill" "batch") rfl), n_Fill_falls := noat_ok (g.fact 69 (f := .noat "Fill" "falls") rfl), n_Fill_lock := noat_ok (g.fact 70 (f := .noat "Fill" "lock") rfl), n_Fill_only_missing := noat_ok (g.fact 71 (f := .noat "Fill" "only_missing") rfl), n_Fill_save := noat_ok (g.fact 72 (f := .noat "Fill" "save") rfl), n_Fill_statement := noat_ok (g.fact 73 (f := .noat "Fill" "statement") rfl), h_Fill_init := meth_ok (g.fact 74 (f := .meth "Fill" "__init__") rfl), mk_Fill := mkr_ok (g.fact 75 (f := .mkr "Fill") rfl), c_Phase := cls_ok (g.fact 76 (f := .cls "Phase") rfl), n_Phase_fills := noat_ok (g.fact 77 (f := .noat "Phase" "fills") rfl), n_Phase_name := noat_ok (g.fact 78 (f := .noat "Phase" "name") rfl), n_Phase_promises := noat_ok (g.fact 79 (f := .noat "Phase" "promises") rfl), n_Phase_waits := noat_ok (g.fact 80 (f := .noat "Phase" "waits") rfl), n_Phase_writers := noat_ok (g.fact 81 (f := .noat "Phase" "writers") rfl), h_Phase_init := meth_ok (g.fact 82 (f := .meth "Phase" "__init__") rfl), mk_Phase := mkr_ok (g.fact 83 (f := .mkr "Phase") rfl), c_Rollout := cls_ok (g.fact 84 (f := .cls "Rollout") rfl), n_Rollout_back := noat_ok (g.fact 85 (f := .noat "Rollout" "back") rfl), n_Rollout_counts := noat_ok (g.fact 86 (f := .noat "Rollout" "counts") rfl), n_Rollout_fill := noat_ok (g.fact 87 (f := .noat "Rollout" "fill") rfl), n_Rollout_hands := noat_ok (g.fact 88 (f := .noat "Rollout" "hands") rfl), n_Rollout_keeps := noat_ok (g.fact 89 (f := .noat "Rollout" "keeps") rfl), n_Rollout_phases := noat_ok (g.fact 90 (f := .noat "Rollout" "phases") rfl), n_Rollout_workers := noat_ok (g.fact 91 (f := .noat "Rollout" "workers") rfl), n_Rollout_writers := noat_ok (g.fact 92 (f := .noat "Rollout" "writers") rfl), h_Rollout_init := meth_ok (g.fact 93 (f := .meth "Rollout" "__init__") rfl), h_Rollout_len := meth_ok (g.fact 94 (f := .meth "Rollout" "__len__") rfl), mk_Rollout := mkr_ok (g.fact 95 (f := .mkr "Rollout") rfl) }
/-- all defs and methods -/
structure Fns (K : PySem.W.Frag) : Prop where
  f_is_integer : ∃ fd, FnP K "is_integer" (top 13) (ga K "is_integer") fd
  f_is_between : ∃ fd, FnP K "is_between" (top 14) (ga K "is_between") fd
  f_is_word : ∃ fd, FnP K "is_word" (top 15) (ga K "is_word") fd
  f_are_words : ∃ fd, FnP K "are_words" (top 16) (ga K "are_words") fd
  f_is_sequence : ∃ fd, FnP K "is_sequence" (top 17) (ga K "is_sequence") fd
  f_is_sized : ∃ fd, FnP K "is_sized" (top 18) (ga K "is_sized") fd
  f_is_name : ∃ fd, FnP K "is_name" (top 19) (ga K "is_name") fd
  f_are_names : ∃ fd, FnP K "are_names" (top 20) (ga K "are_names") fd
  f_is_statement : ∃ fd, FnP K "is_statement" (top 27) (ga K "is_statement") fd
  f_checks_of : ∃ fd, FnP K "checks_of" (top 28) (ga K "checks_of") fd
  f_has_word : ∃ fd, FnP K "has_word" (top 30) (ga K "has_word") fd
  f_needs_read : ∃ fd, FnP K "needs_read" (top 31) (ga K "needs_read") fd
  f_needs_input : ∃ fd, FnP K "needs_input" (top 32) (ga K "needs_input") fd
  f_is_read : ∃ fd, FnP K "is_read" (top 42) (ga K "is_read") fd
  f_is_behind_read : ∃ fd, FnP K "is_behind_read" (top 43) (ga K "is_behind_read") fd
  f_step_fits : ∃ fd, FnP K "step_fits" (top 44) (ga K "step_fits") fd
  f_is_fill_statement : ∃ fd, FnP K "is_fill_statement" (top 46) (ga K "is_fill_statement") fd
  f_wrong_writer : ∃ fd, FnP K "wrong_writer" (top 49) (ga K "wrong_writer") fd
  f_wrong_phase : ∃ fd, FnP K "wrong_phase" (top 50) (ga K "wrong_phase") fd
  f_is_way : ∃ fd, FnP K "is_way" (top 51) (ga K "is_way") fd
  f_wrong_way : ∃ fd, FnP K "wrong_way" (top 52) (ga K "wrong_way") fd
  f_check_rollout : ∃ fd, FnP K "check_rollout" (top 55) (ga K "check_rollout") fd
  f_check_most : ∃ fd, FnP K "check_most" (top 98) (ga K "check_most") fd
  f_sight : ∃ fd, FunD K "sight" "sight" (defArgs (top 104)) (defBody (top 104)) (defScope (top 104)) ([].map (He.Dv.v K)) ([("most", .int 2000)].map fun q => (q.1, He.Dv.v K q.2)) (ga K "sight") fd
  f_l_draw : ∃ fd, FnP K "_law_draw" (top 106) (ga K "_law_draw") fd
  f_l_well : ∃ fd, FnP K "_law_well" (top 107) (ga K "_law_well") fd
  f_l_one : ∃ fd, FnP K "_law_one" (top 108) (ga K "_law_one") fd
  f_l_careful : ∃ fd, FnP K "_law_careful" (top 109) (ga K "_law_careful") fd
  f_l_said : ∃ fd, FnP K "_law_said" (top 110) (ga K "_law_said") fd
  f_law : ∃ fd, FnP K "law" (top 111) (ga K "law") fd
  f_NoStatement_init : ∃ fd, FnM K "__init__" "NoStatement.__init__" 2 0 (ma K (ga K "NoStatement") "__init__") fd
  f_NoNumber_init : ∃ fd, FnM K "__init__" "NoNumber.__init__" 3 0 (ma K (ga K "NoNumber") "__init__") fd
  f_NoWriter_init : ∃ fd, FnM K "__init__" "NoWriter.__init__" 4 0 (ma K (ga K "NoWriter") "__init__") fd
  f_NoFill_init : ∃ fd, FnM K "__init__" "NoFill.__init__" 5 0 (ma K (ga K "NoFill") "__init__") fd
  f_NoPhase_init : ∃ fd, FnM K "__init__" "NoPhase.__init__" 6 0 (ma K (ga K "NoPhase") "__init__") fd
  f_NoRollout_init : ∃ fd, FnM K "__init__" "NoRollout.__init__" 7 0 (ma K (ga K "NoRollout") "__init__") fd
  f_NoWord_init : ∃ fd, FnM K "__init__" "NoWord.__init__" 9 0 (ma K (ga K "NoWord") "__init__") fd
  f_Writer_init : ∃ fd, FnM K "__init__" "Writer.__init__" 45 0 (ma K (ga K "Writer") "__init__") fd
  f_Fill_init : ∃ fd, FunD K "__init__" "Fill.__init__" (defArgs (inClass (top 47) 0)) (defBody (inClass (top 47) 0)) (defScope (inClass (top 47) 0)) (([] : List He.Dv).map (He.Dv.v K)) (([("batch", .int 1), ("save", .str "last"), ("lock", .bl false), ("only_missing", .bl false), ("falls", .bl false), ("again", .bl false)] : List (Str × He.Dv)).map fun q => (q.1, He.Dv.v K q.2)) (ma K (ga K "Fill") "__init__") fd
  f_Phase_init : ∃ fd, FunD K "__init__" "Phase.__init__" (defArgs (inClass (top 48) 0)) (defBody (inClass (top 48) 0)) (defScope (inClass (top 48) 0)) (([] : List He.Dv).map (He.Dv.v K)) (([("writers", .adr (kwA ("Phase", some "__init__") "writers")), ("fills", .bl false), ("promises", .adr (kwA ("Phase", some "__init__") "promises")), ("waits", .adr (kwA ("Phase", some "__init__") "waits"))] : List (Str × He.Dv)).map fun q => (q.1, He.Dv.v K q.2)) (ma K (ga K "Phase") "__init__") fd
  f_Rollout_init : ∃ fd, FunD K "__init__" "Rollout.__init__" (defArgs (inClass (top 53) 0)) (defBody (inClass (top 53) 0)) (defScope (inClass (top 53) 0)) (([] : List He.Dv).map (He.Dv.v K)) (([("workers", .int 1), ("hands", .int 1), ("back", .adr (kwA ("Rollout", some "__init__") "back"))] : List (Str × He.Dv)).map fun q => (q.1, He.Dv.v K q.2)) (ma K (ga K "Rollout") "__init__") fd
  f_Rollout_len : ∃ fd, FnM K "__len__" "Rollout.__len__" 53 1 (ma K (ga K "Rollout") "__len__") fd
theorem fns_of {K : PySem.W.Frag} (g : SaysD fa fn K) : Fns K := by
  have a0 := g.def_ 0 (d := dd 13 "is_integer") rfl
  have a1 := g.def_ 1 (d := dd 14 "is_between") rfl
  have a2 := g.def_ 2 (d := dd 15 "is_word") rfl
  have a3 := g.def_ 3 (d := dd 16 "are_words") rfl
  have a4 := g.def_ 4 (d := dd 17 "is_sequence") rfl
  have a5 := g.def_ 5 (d := dd 18 "is_sized") rfl
  have a6 := g.def_ 6 (d := dd 19 "is_name") rfl
  have a7 := g.def_ 7 (d := dd 20 "are_names") rfl
  have a8 := g.def_ 8 (d := dd 27 "is_statement") rfl
  have a9 := g.def_ 9 (d := dd 28 "checks_of") rfl
  have a10 := g.def_ 10 (d := dd 30 "has_word") rfl
  have a11 := g.def_ 11 (d := dd 31 "needs_read") rfl
  have a12 := g.def_ 12 (d := dd 32 "needs_input") rfl
  have a13 := g.def_ 13 (d := dd 42 "is_read") rfl
  have a14 := g.def_ 14 (d := dd 43 "is_behind_read") rfl
  have a15 := g.def_ 15 (d := dd 44 "step_fits") rfl
  have a16 := g.def_ 16 (d := dd 46 "is_fill_statement") rfl
  have a17 := g.def_ 17 (d := dd 49 "wrong_writer") rfl
  have a18 := g.def_ 18 (d := dd 50 "wrong_phase") rfl
  have a19 := g.def_ 19 (d := dd 51 "is_way") rfl
  have a20 := g.def_ 20 (d := dd 52 "wrong_way") rfl
  have a21 := g.def_ 21 (d := dd 55 "check_rollout") rfl
  have a22 := g.def_ 22 (d := dd 98 "check_most") rfl
  have a23 := g.def_ 23 (d := ⟨("sight", none), "sight", "sight", defArgs (top 104), defBody (top 104), defScope (top 104), [], [("most", .int 2000)]⟩) rfl
  have a24 := g.def_ 24 (d := dd 106 "_law_draw") rfl
  have a25 := g.def_ 25 (d := dd 107 "_law_well") rfl
  have a26 := g.def_ 26 (d := dd 108 "_law_one") rfl
  have a27 := g.def_ 27 (d := dd 109 "_law_careful") rfl
  have a28 := g.def_ 28 (d := dd 110 "_law_said") rfl
  have a29 := g.def_ 29 (d := dd 111 "law") rfl
  have a30 := g.def_ 30 (d := dm 2 "NoStatement" 0 "__init__" "NoStatement.__init__") rfl
  have a31 := g.def_ 31 (d := dm 3 "NoNumber" 0 "__init__" "NoNumber.__init__") rfl
  have a32 := g.def_ 32 (d := dm 4 "NoWriter" 0 "__init__" "NoWriter.__init__") rfl
  have a33 := g.def_ 33 (d := dm 5 "NoFill" 0 "__init__" "NoFill.__init__") rfl
  have a34 := g.def_ 34 (d := dm 6 "NoPhase" 0 "__init__" "NoPhase.__init__") rfl
  have a35 := g.def_ 35 (d := dm 7 "NoRollout" 0 "__init__" "NoRollout.__init__") rfl
  have a36 := g.def_ 36 (d := dm 9 "NoWord" 0 "__init__" "NoWord.__init__") rfl
  have a37 := g.def_ 37 (d := dm 45 "Writer" 0 "__init__" "Writer.__init__") rfl
  have a38 := g.def_ 38 (d := ⟨("Fill", some "__init__"), "__init__", "Fill.__init__", defArgs (inClass (top 47) 0), defBody (inClass (top 47) 0), defScope (inClass (top 47) 0), [], [("batch", .int 1), ("save", .str "last"), ("lock", .bl false), ("only_missing", .bl false), ("falls", .bl false), ("again", .bl false)]⟩) rfl
  have a39 := g.def_ 39 (d := ⟨("Phase", some "__init__"), "__init__", "Phase.__init__", defArgs (inClass (top 48) 0), defBody (inClass (top 48) 0), defScope (inClass (top 48) 0), [], [("writers", .adr (kwA ("Phase", some "__init__") "writers")), ("fills", .bl false), ("promises", .adr (kwA ("Phase", some "__init__") "promises")), ("waits", .adr (kwA ("Phase", some "__init__") "waits"))]⟩) rfl
  have a40 := g.def_ 40 (d := ⟨("Rollout", some "__init__"), "__init__", "Rollout.__init__", defArgs (inClass (top 53) 0), defBody (inClass (top 53) 0), defScope (inClass (top 53) 0), [], [("workers", .int 1), ("hands", .int 1), ("back", .adr (kwA ("Rollout", some "__init__") "back"))]⟩) rfl
  have a41 := g.def_ 41 (d := dm 53 "Rollout" 1 "__len__" "Rollout.__len__") rfl
  exact ⟨a0, a1, a2, a3, a4, a5, a6, a7, a8, a9, a10, a11, a12, a13, a14, a15, a16, a17, a18, a19, a20, a21, a22, a23, a24, a25, a26, a27, a28, a29, a30, a31, a32, a33, a34, a35, a36, a37, a38, a39, a40, a41⟩
end K55

set_option maxRecDepth 100000
set_option maxHeartbeats 4000000
/-! What is walked may be a list or a tuple; texts told among values. -/
namespace L2
open PySem PySem.Spec PyProof.Rows
/-- two ways to read what is walked -/
def iOr (a b : TI) : TI := fun σ H R => a σ H R ∨ b σ H R
theorem pi_or {X : Cx} {tg e : Expr} {a b : TI} (ha : PI X tg e a) (hb : PI X tg e b) : PI X tg e (iOr a b) := ⟨fun pins s σ H R I h => h.elim (ha.run pins s σ H R I) (hb.run pins s σ H R I)⟩
/-- a list, or a tuple -/
def SqV (K : PySem.W.Frag) (H : Hp) (a : Addr) (xs : List V) : Prop := SqL K H a xs ∨ SqT K H a xs
theorem SqL.same {K : PySem.W.Frag} {H H' : Hp} {a : Addr} {xs : List V} (h : SqL K H a xs) (s : Same H H') : SqL K H' a xs := by
  rcases h with (h | ⟨o, h⟩) | h
  · exact .inl (.inl (s _ _ h))
  · exact .inl (.inr ⟨o, s _ _ h⟩)
  · exact .inr h
theorem SqT.same {K : PySem.W.Frag} {H H' : Hp} {a : Addr} {xs : List V} (h : SqT K H a xs) (s : Same H H') : SqT K H' a xs := by
  rcases h with (h | ⟨o, h⟩) | h
  · exact .inl (.inl (s _ _ h))
  · exact .inl (.inr ⟨o, s _ _ h⟩)
  · exact .inr h
theorem SqV.same {K : PySem.W.Frag} {H H' : Hp} {a : Addr} {xs : List V} (h : SqV K H a xs) (s : Same H H') : SqV K H' a xs := h.imp (·.same s) (·.same s)
/-- no text, whatever is made besides -/
def NoTx (K : PySem.W.Frag) (H : Hp) (x : V) : Prop := ∀ H', Same H H' → ∃ t, TyX K H' x t ∧ PySem.W.kitOne K t (.type "str") = some false
/-- no list and no tuple -/
def NoSq (K : PySem.W.Frag) (H : Hp) (x : V) : Prop := ∀ H', Same H H' → ∃ t, TyX K H' x t ∧ PySem.W.kitOne K t (.type "list") = some false ∧ PySem.W.kitOne K t (.type "tuple") = some false
theorem NoTx.same {K : PySem.W.Frag} {H H' : Hp} {x : V} (h : NoTx K H x) (s : Same H H') : NoTx K H' x := fun H2 s2 => h H2 (s.trans s2)
theorem NoSq.same {K : PySem.W.Frag} {H H' : Hp} {x : V} (h : NoSq K H x) (s : Same H H') : NoSq K H' x := fun H2 s2 => h H2 (s.trans s2)
/-- each is a text, or no text -/
def Told (K : PySem.W.Frag) (H : Hp) (xs : List V) : Prop := ∀ x ∈ xs, (∃ z : Str, x = .str z ∧ z.length ≤ 1000 ∧ PyData.canLay0 (.str z) = true) ∨ NoTx K H x
theorem Told.same {K : PySem.W.Frag} {H H' : Hp} {xs : List V} (h : Told K H xs) (s : Same H H') : Told K H' xs := fun x hx => (h x hx).imp id (·.same s)
/-- the texts, if all are -/
def txs? : List V → Option (List Str)
  | [] => some []
  | .str z :: l => (txs? l).map (z :: ·)
  | _ :: _ => none
theorem txs_map : ∀ ws : List Str, txs? (ws.map V.str) = some ws
  | [] => rfl
  | w :: ws => by
    show (txs? (ws.map V.str)).map (w :: ·) = _
    rw [txs_map ws]
    rfl
theorem txs_some : ∀ {xs : List V} {ws : List Str}, txs? xs = some ws → xs = ws.map V.str
  | [], ws, h => by cases h; rfl
  | .str z :: l, ws, h => by
    have h : (txs? l).map (z :: ·) = some ws := h
    obtain ⟨u, hu, rfl⟩ := Option.map_eq_some_iff.mp h
    rw [txs_some hu]
    rfl
  | .non :: _, _, h => by cases h
  | .bl _ :: _, _, h => by cases h
  | .int _ :: _, _, h => by cases h
  | .ref _ :: _, _, h => by cases h
  | .ty _ :: _, _, h => by cases h
  | .byt _ :: _, _, h => by cases h
  | .flt _ :: _, _, h => by cases h
/-- a comprehension over a list or a tuple that stays: what is told of it besides may change -/
theorem lc_sqv {K : PySem.W.Frag} {a : Addr} {xs : List V} {g : TG} {tt : TT} {te : TE} {vs : List Nat} {σ : St} {H : Hp} {Q : VK} {j : Nat} (hj : σ[j]? = some (some (.ref a))) (hv : SqV K H a xs) (Pv : Addr → Nat → Hp → Prop) (hk : ∀ D i G, Pv D i G → Same H G)
    (h0 : ∀ D, H D = none → Pv D 0 (upd H D (.lst [])))
    (hs : ∀ D i x G, H D = none → xs[i]? = some x → Pv D i G → g x (wipe σ vs) G fun σ2 H2 => wipe σ2 vs = wipe σ vs ∧ tt σ2 H2 fun b H3 =>
      if b = true then te σ2 H3 fun y H4 => ∃ acc, H4 D = some (.lst acc) ∧ acc.length < sizeLine ∧ Pv D (i + 1) (upd H4 D (.lst (acc ++ [y]))) else Pv D (i + 1) H3) (hd : ∀ D G, Pv D xs.length G → Q (.ref D) G) :
    tLc (iOr (iList K (tVar j)) (iTup K (tVar j))) g tt te vs σ H Q := by
  rcases hv with hv | hv
  · exact .inl ⟨_, hj, a, rfl, ⟨_, hv⟩, fun D nD => lc_list (K := K) (xs := xs) (Pv D) (h0 D nD) (fun i G _ p => SqL.same hv (hk D i G p)) (fun i x G hx p => hs D i x G nD hx p) (hd D)⟩
  · exact .inr ⟨_, hj, a, rfl, ⟨_, hv⟩, fun D nD => lc_tup (K := K) (xs := xs) (Pv D) (h0 D nD) (fun i G _ p => SqT.same hv (hk D i G p)) (fun i x G hx p => hs D i x G nD hx p) (hd D)⟩
theorem rd_notall {wi : TI} {g : TG} {tt : TT} {te : TE} {vs : List Nat} {σ : St} {H : Hp} {r : List V → Hp → VK → Prop} {Q : Bool → Hp → Prop} (h : tLc wi g tt te vs σ H fun x H1 => r [x] H1 fun v H2 => ∃ k, v = .bl k ∧ Q (!k) H2) :
    tNot (tB (tCB r (tCons (tLc wi g tt te vs) tNil))) σ H Q := h
theorem rd_call1 {wi : TI} {g : TG} {tt : TT} {te : TE} {vs : List Nat} {σ : St} {H : Hp} {r : List V → Hp → VK → Prop} {Q : VK} (h : tLc wi g tt te vs σ H fun x H1 => r [x] H1 Q) : tCB r (tCons (tLc wi g tt te vs) tNil) σ H Q := h
theorem rd_seq {t u : TS} {D : Ends} {σ : St} {H : Hp} (h : t { D with nx := u D } σ H) : tSeq t u D σ H := h
theorem rd_if {c : TT} {t u : TS} {D : Ends} {σ : St} {H : Hp} (h : c σ H fun b H1 => if b = true then t D σ H1 else u D σ H1) : tIfS c t u D σ H := h
theorem rd_ret {t : TE} {D : Ends} {σ : St} {H : Hp} (h : t σ H D.rt) : tRet t D σ H := h
theorem rd_asg {t : TE} {g : TG} {D : Ends} {σ : St} {H : Hp} (h : t σ H fun x H1 => g x σ H1 D.nx) : tAsg t g D σ H := h
/-- tuple(x), x a list or a tuple -/
def rTupS (K : PySem.W.Frag) : List V → Hp → VK → Prop := fun xs H Q => ∃ (a : Addr) (ys : List V), xs = [.ref a] ∧ SqV K H a ys ∧ ∀ (t : Addr) (G : Hp), Same H G → SqT K G t ys → Q (.ref t) G
theorem call_tupS {X : Cx} : CallR X (.type "tuple") (rTupS X.K) := by
  intro pins s σ H xs us Q I r h
  obtain ⟨a, ys, rfl, hv, k⟩ := h
  refine call_tuple_of pins s σ H _ us Q I r ⟨a, ys, rfl, ?_⟩
  rcases hv with hv | hv
  · exact .inl ⟨hv, fun l nl => k l _ (fun b o e => by rw [upd_ne (ne_of_none e nl)]; exact e) (SqT.of upd_same)⟩
  · exact .inr ⟨hv, k a H (fun _ _ e => e) hv⟩
/-- all but what is at a -/
theorem SqL.off {K : PySem.W.Frag} {H H' : Hp} {a b : Addr} {xs : List V} (h : SqL K H b xs) (n : ∀ o ys, H a ≠ some (.frz o (.lst ys)) ∧ H a ≠ some (.lst ys)) (e : ∀ c u, c ≠ a → H c = some u → H' c = some u) : SqL K H' b xs := by
  rcases h with (h | ⟨o, h⟩) | h
  · exact .inl (.inl (e _ _ (fun z => (n default xs).2 (z ▸ h)) h))
  · exact .inl (.inr ⟨o, e _ _ (fun z => (n o xs).1 (z ▸ h)) h⟩)
  · exact .inr h
theorem SqT.off {K : PySem.W.Frag} {H H' : Hp} {a b : Addr} {xs : List V} (h : SqT K H b xs) (n : ∀ o ys, H a ≠ some (.frz o (.tup ys)) ∧ H a ≠ some (.tup ys)) (e : ∀ c u, c ≠ a → H c = some u → H' c = some u) : SqT K H' b xs := by
  rcases h with (h | ⟨o, h⟩) | h
  · exact .inl (.inl (e _ _ (fun z => (n default xs).2 (z ▸ h)) h))
  · exact .inl (.inr ⟨o, e _ _ (fun z => (n o xs).1 (z ▸ h)) h⟩)
  · exact .inr h
/-- an own instance's fields are stored: sequences stand -/
theorem SqV.ins {K : PySem.W.Frag} {H H' : Hp} {a b C dx : Addr} {fs : List (Str × V)} {xs : List V} (h : SqV K H b xs) (ha : H a = some (.ins C dx fs)) (e : ∀ c u, c ≠ a → H c = some u → H' c = some u) : SqV K H' b xs :=
  h.imp (fun h => h.off (fun o ys => ⟨(fun z => by rw [ha] at z; cases z), (fun z => by rw [ha] at z; cases z)⟩) e) (fun h => h.off (fun o ys => ⟨(fun z => by rw [ha] at z; cases z), (fun z => by rw [ha] at z; cases z)⟩) e)
theorem SqT.ins {K : PySem.W.Frag} {H H' : Hp} {a b C dx : Addr} {fs : List (Str × V)} {xs : List V} (h : SqT K H b xs) (ha : H a = some (.ins C dx fs)) (e : ∀ c u, c ≠ a → H c = some u → H' c = some u) : SqT K H' b xs :=
  h.off (fun o ys => ⟨(fun z => by rw [ha] at z; cases z), (fun z => by rw [ha] at z; cases z)⟩) e
end L2

set_option maxRecDepth 100000
set_option maxHeartbeats 4000000
/-! set(xs) of a list or tuple of texts, however many and alike: how many it has. -/
namespace STX
open PySem PySem.Spec PyProof.Rows L2 SS
/-- how many unlike ones the first i have -/
def cnt (xs : List Str) : Nat → Nat
  | 0 => 0
  | i + 1 => if (xs.take i).any (· == xs.getD i Str.empty) then cnt xs i else cnt xs i + 1
theorem cnt_le (xs : List Str) : ∀ i, cnt xs i ≤ i
  | 0 => Nat.le_refl _
  | i + 1 => by
    have := cnt_le xs i
    unfold cnt
    split <;> omega
theorem cnt_all {xs : List Str} : ∀ i, i ≤ xs.length → (cnt xs i = i ↔ (xs.take i).Nodup)
  | 0, _ => by simp [cnt]
  | i + 1, h => by
    have lt : i < xs.length := h
    have ih := cnt_all (xs := xs) i (Nat.le_of_lt lt)
    have le := cnt_le xs i
    have eg : xs.getD i Str.empty = xs[i] := by rw [List.getD_eq_getElem?_getD, List.getElem?_eq_getElem lt]; rfl
    have et : xs.take (i + 1) = xs.take i ++ [xs[i]] := by rw [List.take_add_one, List.getElem?_eq_getElem lt]; rfl
    rw [et, List.nodup_append]
    unfold cnt
    rw [eg]
    by_cases m : xs[i] ∈ xs.take i
    · have hb : (xs.take i).any (· == xs[i]) = true := List.any_eq_true.mpr ⟨_, m, beq_self_eq_true _⟩
      rw [if_pos hb]
      refine ⟨fun e => absurd e (by omega), fun e => absurd rfl (e.2.2 _ m _ (List.mem_singleton.mpr rfl))⟩
    · have na : (xs.take i).any (· == xs[i]) = false := by
        cases hb : (xs.take i).any (· == xs[i]) with
        | false => rfl
        | true =>
          obtain ⟨y, hy, e⟩ := List.any_eq_true.mp hb
          rw [eq_of_beq e] at hy
          exact absurd hy m
      rw [na, if_neg (by simp)]
      refine ⟨fun e => ⟨ih.mp (by omega), by simp, fun y hy z hz q => ?_⟩, fun e => ?_⟩
      · rw [List.mem_singleton.mp hz] at q
        exact m (q ▸ hy)
      · have := ih.mpr e.1
        omega
section
variable {prog : Program} {w : World} {A : Around} {R : Result → Shared → Prop} {I S : Addr} {fp wr : List Addr} {G : Array GenState → Array GenState → Prop} {n : Nat} {P : Nat → Value → Prop} {St : Nat → Shared → Prop}
/-- the set at S, the first i of xs in it -/
abbrev Has (prog : Program) (w : World) (S : Addr) (xs : List Str) (i : Nat) (h : Heap) : Prop := h.SetOf (strKind prog w) S (fun k => (xs.take i).any (· == k)) (cnt xs i)
theorem Has.kept {xs : List Str} {i : Nat} {h h' : Heap} (q : Has prog w S xs i h) (k : ∀ o, h.get? S = some o → h'.get? S = some o) : Has prog w S xs i h' := by
  obtain ⟨o, es, ep, t, a, r⟩ := q
  exact ⟨o, es, ep, t, k o a, r⟩
theorem fills (W : WalksS prog w A.in1 I fp wr G n P St) (nf : S ∉ fp) (xs : List Str) (ln : xs.length = n) (few : n < 4000) (val : ∀ i v, P i v → ∃ t, v = .str (xs.getD i Str.empty) t) (d : Nat) :
    ∀ (i : Nat) (s : Shared), n = i + d → St i s → Has prog w S xs i s.heap → (∀ s', Moved (S :: wr) G s s' → Has prog w S xs n s'.heap → R (.ok (.ret .none)) s') →
      codeAny (model prog w) A (.builtin "set.update.loop" ⟨[.ref S, .ref I], []⟩) R s := by
  have nw : S ∉ wr := fun z => nf (W.sub _ z)
  have up : ∀ b ∈ wr, b ∈ S :: wr := fun b z => List.mem_cons_of_mem _ z
  induction d with
  | zero =>
    intro i s e at_ has k
    obtain rfl : n = i := e
    refine codeAny_builtin F.entry_set_update_loop ?_
    rw [Around.under_plainId F.plain_set_update_loop _]
    refine wpAny_bind (W.done s _ _ at_ fun s' mv => ?_)
    exact wpAny_pure (k s' (mv.mono up) (has.kept fun o z => mv.heap S _ nw z))
  | succ d ih =>
    intro i s e at_ has k
    have lt : i < n := by omega
    refine codeAny_builtin F.entry_set_update_loop ?_
    rw [Around.under_plainId F.plain_set_update_loop _]
    refine wpAny_bind (W.item i s _ _ lt at_ fun v s1 pv at1 mv => ?_)
    obtain ⟨t, rfl⟩ := val i v pv
    have has1 := has.kept (h' := s1.heap) fun o z => mv.heap S _ nw z
    have cl := cnt_le xs i
    refine wpAny_bind (wpAny_holding ?_)
    unfold setAdd
    refine wpAny_holding (wpAny_bind ((strKind prog w).pyHash (k := xs.getD i Str.empty) (strKind_is _ _ _ _) ?_))
    refine wpAny_setAddHashed_of (knd := strKind prog w) (s := { s1 with toks := s1.toks + 1 }) (strKind_is _ _ _ _) rfl has1 (by unfold scanBound; omega) fun h2 sb has2 => ?_
    have lx : i < xs.length := by omega
    have eg : xs.getD i Str.empty = xs[i] := by rw [List.getD_eq_getElem?_getD, List.getElem?_eq_getElem lx]; rfl
    have has3 : Has prog w S xs (i + 1) h2 := by
      refine SetOf_congr has2 (fun k => ?_) rfl
      show ((xs.take i).any (· == k) || decide (k = xs.getD i Str.empty)) = (xs.take (i + 1)).any (· == k)
      rw [eg, List.take_add_one, List.getElem?_eq_getElem lx, List.any_append]
      congr 1
      show decide (k = xs[i]) = ((xs[i] == k) || false)
      rw [Bool.or_false]
      by_cases q : k = xs[i]
      · rw [q]
        simp
      · rw [decide_eq_false q]
        exact (beq_eq_false_iff_ne.mpr fun z => q z.symm).symm
    have off : ∀ b o, b ≠ S → s1.heap.get? b = some o → h2.get? b = some o := fun b o nb z => by rw [sb.2 b nb]; exact z
    refine wpAny_pure ⟨plainId_quiet F.plain_set_update_loop _, ih (i + 1) _ (by omega) (W.frame _ s1 _ _ at1 (Nat.le_succ _) fun b hb o z => off b o (fun q => nf (q ▸ hb)) z) has3 fun s3 mv3 has4 => ?_⟩
    exact k s3 (Moved.trans W.gtrans ((mv.mono up).then_heap (Nat.le_succ _) fun b o hb z => off b o (fun q => hb (q ▸ List.mem_cons_self)) z) mv3) has4
end
section
variable {prog : Program} {w : World} {A : Around} {E : Value → Shared → Prop} {s : Shared}
/-- behind an empty set was made -/
abbrev sMade (s : Shared) (led : Bool) : Shared := { s with heap := s.heap.push { cls := .type "set", dict := none, data := .set #[] 0 (.fresh 0 0 led) } }
/-- what set(xs) leaves: the set at the heap's end, all else as it was -/
def Left (prog : Program) (w : World) (s : Shared) (xs : List Str) (n : Nat) (h' : Heap) : Prop := Has prog w s.heap.objs.size xs n h' ∧ ∀ b o, b < s.heap.objs.size → s.heap.get? b = some o → h'.get? b = some o
/-- a list, or a tuple -/
def SeqO (h : Heap) (l : Addr) (items : Array Value) : Prop := h.IsList l items ∨ h.IsTuple l items
theorem begun {xs : List Str} {h : Heap} {S : Addr} (led : Bool) (g : h.get? S = some { cls := .type "set", dict := none, data := .set #[] 0 (.fresh 0 0 led) }) : Has prog w S xs 0 h :=
  SetOf_congr ((setObjOf_fresh (knd := strKind prog w) led).setOf g (by unfold scanBound; omega)) (fun _ => rfl) rfl
theorem far {o : Obj} {l : Addr} (lt : l < s.heap.objs.size) : l ≠ (s.heap.push o).objs.size := fun z => by
  rw [z, Heap.size_push] at lt
  exact Nat.lt_irrefl _ (Nat.lt_trans (Nat.lt_succ_self _) lt)
theorem away {o : Obj} {l : Addr} (lt : l < s.heap.objs.size) : s.heap.objs.size ∉ [(s.heap.push o).objs.size, l] := fun z => by
  rcases List.mem_cons.mp z with z | z
  · rw [Heap.size_push] at z
    exact absurd z (Nat.ne_of_lt (Nat.lt_succ_self _))
  · rw [List.mem_singleton.mp z] at lt
    exact Nat.lt_irrefl _ lt
theorem ends {o o2 : Obj} {s' : Shared} {tk : Nat} {xs : List Str} {n : Nat} {Q : Value → Shared → Prop} (mv : Moved (s.heap.objs.size :: [(s.heap.push o).objs.size]) (fun a b => b = a) { s with heap := (s.heap.push o).push o2, toks := tk } s') (has : Has prog w s.heap.objs.size xs n s'.heap)
    (k : ∀ h' tk', Left prog w s xs n h' → Q Value.none { s with heap := h', toks := tk' }) : Q Value.none s' := by
  obtain ⟨h', g', d', tk', os'⟩ := s'
  obtain ⟨m1, m2, m3, m4, _⟩ := mv
  have e1 : g' = s.gens := m2
  have e2 : d' = s.drawn := m3
  have e3 : os' = s.os := m4
  subst e1 e2 e3
  refine k h' tk' ⟨has, fun b u lt g => m1 b u (fun z => ?_) (Heap.get?_push_of_some _ (Heap.get?_push_of_some _ g))⟩
  rcases List.mem_cons.mp z with z | z
  · rw [z] at lt
    exact Nat.lt_irrefl _ lt
  · exact far lt (List.mem_singleton.mp z)
theorem call_set {l : Addr} {items : Array Value} {xs : List Str} {Q : Value → Shared → Prop} (hd : A.handled = none) (sq : SeqO s.heap l items) (tx : StrsAre items.toList xs) (few : xs.length < 4000)
    (k : ∀ (h' : Heap) (tk : Nat), Left prog w s xs items.size h' → Q (.ref s.heap.objs.size) { s with heap := h', toks := tk }) : wpAny (model prog w) A (call (.type "set") [.ref l]) Q E s := by
  have m1 := PySem.F.called_set.made
  have m2 := PySem.F.called_set.sub
  obtain ⟨c, tl, m3⟩ := PySem.F.called_set.mro
  refine wpAny_call (codeAny_of_tree ?_)
  show wpAny _ _ (callAny (.type "set") _) _ _ _
  refine wpAny_pure ⟨Code.quiet_builtin _ (by decide +kernel), codeAny_builtin PySem.F.entry_type_call ?_⟩
  rw [Around.under_plain (weight_type_call_type "set" [.ref l] []) rfl]
  have n1 := PySem.F.called_set.notType
  have n2 := PySem.F.called_set.canCreate
  have n3 := PySem.F.typeCall_set_1 (.ref l)
  repeat (any_goals (first | assumption | wp_step))
  refine codeAny_mono (code_set_new_1 (.ref l) (E := E) (Q₁ := fun u z => ∃ led : Bool, u = .ref s.heap.objs.size ∧ z = sMade s led) fun led => ⟨led, rfl, rfl⟩) fun r z hr => ?_
  cases r with
  | error e => exact hr
  | ok fl =>
  cases fl with
  | next => exact hr.elim
  | brk => exact hr.elim
  | cont => exact hr.elim
  | ret u =>
  obtain ⟨led, rfl, rfl⟩ := hr
  have gS : (sMade s led).heap.get? s.heap.objs.size = some { cls := .type "set", dict := none, data := .set #[] 0 (.fresh 0 0 led) } := Heap.get?_push_size _ rfl
  have tS : Shared.TypeIs (sMade s led) (.ref s.heap.objs.size) "set" := ⟨_, gS, rfl⟩
  have n4 := PySem.F.called_set.init.lookup
  have n5 := PySem.F.called_set.init.bind (.ref s.heap.objs.size)
  repeat (any_goals (first | assumption | wp_step))
  refine codeAny_mono (codeAny_call_builtin (R := wants (fun r z => r = .none ∧ ∃ h' tk, z = { s with heap := h', toks := tk } ∧ Left prog w s xs items.size h') E) PySem.F.called_set.init.plain PySem.F.entry_set_init (check_set_init_1 tS ?_)) fun r z hz => ?_
  · have len : xs.length = items.size := by rw [← StrsAre.len_eq tx, Array.length_toList]
    have val : ∀ (i : Nat) (v : Value), items[i]? = some v → ∃ t, v = .str (xs.getD i Str.empty) t := fun i v hv => strs_at tx i v (by rw [Array.getElem?_toList]; exact hv)
    rcases sq with sq | sq
    · obtain ⟨⟨oc, od, dt, sl⟩, ho, hc, nl, hdt⟩ := sq
      simp only at hc hdt
      subst hc hdt
      have lS : l < s.heap.objs.size := Heap.lt_size ho
      have ho2 : (s.heap.push { cls := .type "set", dict := none, data := .set #[] 0 (.fresh 0 0 led) }).get? l = some { cls := .type "list", dict := od, data := .seq items nl, slots := sl } := Heap.get?_push_of_some _ ho
      have z1 := PySem.F.sub_list_set
      have z2 := PySem.F.sub_list_frozenset
      have z3 : (Value.type "list" == Value.type "dict") = false := by decide
      have is1 : (s.heap.push { cls := .type "set", dict := none, data := .set #[] 0 (.fresh 0 0 led) }).IsList l items := ⟨_, ho2, rfl, nl, rfl⟩
      unfold Builtin.«set.__init__» noKeywords Builtin.Frozenset.updateFrom
      generalize hP : pyIter = PI
      wp_walk
      subst hP
      refine wpAny_pyIter_list is1 (wpAny_bind (wpAny_runValue ?_))
      have nI : l ≠ (s.heap.push { cls := .type "set", dict := none, data := .set #[] 0 (.fresh 0 0 led) }).objs.size := far lS
      exact fills ((Walks.list (by simp [hd]) _ l nI items).toS) (away lS) xs len (by omega) val items.size 0 _ (by omega) ⟨⟨_, Heap.get?_push_size _ rfl, rfl, rfl⟩, is1.push _⟩
        (begun led (Heap.get?_push_of_some _ gS)) fun s' mv has => by
          show wpAny _ _ _ _ _ _
          refine wpAny_pure ?_
          show wpAny _ _ (ret Value.none) _ _ _
          exact wpAny_pure (ends (Q := fun r z => r = .none ∧ ∃ h' tk, z = { s with heap := h', toks := tk } ∧ Left prog w s xs items.size h') mv has fun h' tk' lf => ⟨rfl, h', tk', rfl, lf⟩)
    · obtain ⟨⟨oc, od, dt, sl⟩, ho, hc, nl, hdt⟩ := sq
      simp only at hc hdt
      subst hc hdt
      have lS : l < s.heap.objs.size := Heap.lt_size ho
      have ho2 : (s.heap.push { cls := .type "set", dict := none, data := .set #[] 0 (.fresh 0 0 led) }).get? l = some { cls := .type "tuple", dict := od, data := .seq items nl, slots := sl } := Heap.get?_push_of_some _ ho
      have z1 := PySem.F.sub_tuple_set
      have z2 := PySem.F.sub_tuple_frozenset
      have z3 : (Value.type "tuple" == Value.type "dict") = false := by decide
      have is1 : (s.heap.push { cls := .type "set", dict := none, data := .set #[] 0 (.fresh 0 0 led) }).IsTuple l items := ⟨_, ho2, rfl, nl, rfl⟩
      unfold Builtin.«set.__init__» noKeywords Builtin.Frozenset.updateFrom
      generalize hP : pyIter = PI
      wp_walk
      subst hP
      refine wpAny_pyIter_tuple is1 (wpAny_bind (wpAny_runValue ?_))
      have nI : l ≠ (s.heap.push { cls := .type "set", dict := none, data := .set #[] 0 (.fresh 0 0 led) }).objs.size := far lS
      exact fills ((Walks.tuple (by simp [hd]) _ l nI items).toS) (away lS) xs len (by omega) val items.size 0 _ (by omega) ⟨⟨_, Heap.get?_push_size _ rfl, rfl, rfl⟩, is1.push _⟩
        (begun led (Heap.get?_push_of_some _ gS)) fun s' mv has => by
          show wpAny _ _ _ _ _ _
          refine wpAny_pure ?_
          show wpAny _ _ (ret Value.none) _ _ _
          exact wpAny_pure (ends (Q := fun r z => r = .none ∧ ∃ h' tk, z = { s with heap := h', toks := tk } ∧ Left prog w s xs items.size h') mv has fun h' tk' lf => ⟨rfl, h', tk', rfl, lf⟩)
  · cases r with
    | error e => exact hz
    | ok fl =>
    cases fl with
    | next => exact hz.elim
    | brk => exact hz.elim
    | cont => exact hz.elim
    | ret u =>
    obtain ⟨rfl, h', tk, rfl, lf⟩ := hz
    repeat (any_goals (first | assumption | wp_step))
    exact k _ _ lf
end
end STX
namespace L2
open PySem PySem.Spec PyProof.Rows
section
variable {X : Cx}
/-- len(set(xs)): how many unlike texts -/
def tLenTx (K : PySem.W.Frag) (ta : TE) : TE := fun σ H Q => ta σ H fun x H1 => ∃ (l : Addr) (xs : List Str), x = .ref l ∧ (SqL K H1 l (xs.map V.str) ∨ SqT K H1 l (xs.map V.str)) ∧ xs.length < 4000 ∧ Q (.int (STX.cnt xs xs.length)) H1
theorem pe_lenTx {a : Expr} {ta : TE} {p p2 q pos : Pos} (hc : X.calm = true) (g1 : Gl X "len") (m1 : X.mg "len" = none) (g2 : Gl X "set") (m2 : X.mg "set" = none) (ha : PE X a ta)
    (na : starEach [a] X.env = (false, eval a X.env) :: starEach [] X.env := by rfl) : PE X (.Call (.Name "len" p) [.Call (.Name "set" p2) [a] [] q] [] pos) (tLenTx X.K ta) := by
  refine ⟨fun pins s σ H Q I h => ?_⟩
  refine Call_ (ld_blt I g1 m1 boot_len (callWith_builtin1 (args_cons ?_ rfl) rfl rfl))
  refine Call_ (ld_blt I g2 m2 boot_set (callWith_type1 (args_cons (thn (ha.run pins s σ H _ I h) fun v s1 ⟨x, H1, I1, r1, q1⟩ => args_nil ?_) na) na rfl))
  obtain ⟨l, xs, rfl, sq, few, q1⟩ := q1
  cases r1
  have both : ∃ its : List Value, Vals (xs.map V.str) its ∧ STX.SeqO s1.heap l its.toArray := by
    rcases sq with sq | sq
    · obtain ⟨its, r, pl, _⟩ := I1.list sq
      exact ⟨its, r, .inl pl.isList⟩
    · obtain ⟨its, r, pl, _⟩ := I1.tuple sq
      exact ⟨its, r, .inr pl⟩
  obtain ⟨its, r, so⟩ := both
  refine STX.call_set (I1.ok.hd hc) so (by simpa using strsAre_of r) few fun h' tk lf => args_nil ?_
  have ln : its.toArray.size = xs.length := by rw [List.size_toArray, ← r.length, List.length_map]
  obtain ⟨has, kept⟩ := lf
  rw [ln] at has
  obtain ⟨o, es, ep, t, ho, ex, dt, _, _, _, fit, n⟩ := has
  have I2 : Inv X pins σ H1 { s1 with heap := h', toks := tk } := I1.kept fun b o e => kept b o (Heap.lt_size e) e
  have := STX.cnt_le xs xs.length
  exact call_len_set ho ex dt fit (by rw [n]; omega) ⟨.int (STX.cnt xs xs.length), H1, I2.tok _, ⟨_, by rw [n]⟩, q1⟩
end
end L2

set_option maxRecDepth 100000
set_option maxHeartbeats 4000000
/-! list(s) of a text: its signs; the joining of signs. -/
namespace L2
open PySem PySem.Spec PyProof.Rows TL
/-- the sign of a code -/
abbrev sgn (c : Nat) : Str := ⟨#[c]⟩
/-- the signs of a text -/
def sgns (x : Str) : List Str := x.cps.toList.map sgn
theorem sgns_len (x : Str) : (sgns x).length = x.length := by
  unfold sgns
  rw [List.length_map, Array.length_toList]
  rfl
theorem vals_at : ∀ {xs : List V} {us : List Value}, us.length = xs.length → (∀ (j : Nat) (u : Value), us[j]? = some u → ∃ y, xs[j]? = some y ∧ RelV y u) → Vals xs us
  | [], [], _, _ => .nil
  | [], _ :: _, h, _ => by simp at h
  | _ :: _, [], h, _ => by simp at h
  | x :: xs, u :: us, h, k => by
    obtain ⟨y, e, r⟩ := k 0 u rfl
    obtain rfl : x = y := Option.some.inj e
    exact .cons r (vals_at (Nat.succ.inj h) fun j v hj => k (j + 1) v hj)
def rListTx : List V → Hp → VK → Prop := fun xs H Q => ∃ z : Str, xs = [.str z] ∧ z.length ≤ 1000 ∧ ∀ l, H l = none → Q (.ref l) (upd H l (.lst ((sgns z).map V.str)))
theorem call_list_tx {X : Cx} (hc : X.calm = true) : CallR X (.type "list") rListTx := by
  intro pins s σ H xs us Q I r h
  obtain ⟨z, rfl, few, k⟩ := h
  obtain ⟨u, rfl, t, rfl⟩ := vals1 r
  have big : 1000 < sizeLine := by decide
  have few2 : z.cps.size ≤ 1000 := few
  refine call_list_str (I.ok.hd hc) z t (fun h' tk acc c kept new items => ?_) (by omega)
  obtain ⟨n, each⟩ := items
  refine ⟨.ref s.heap.objs.size, _, I.laid (t' := tk) kept (Nat.le_refl _) ?_, rfl, k _ (I.hok.fresh (Nat.le_refl _))⟩
  have ls : acc.toList.length = ((sgns z).map V.str).length := by
    rw [List.length_map, sgns_len, Array.length_toList, n]
    rfl
  refine ⟨by rw [List.length_map, sgns_len]; omega, acc.toList, c, vals_at ls fun j v hj => ?_, by simpa using new⟩
  obtain ⟨cd, tk2, e1, rfl⟩ := each j v (by rw [← Array.getElem?_toList]; exact hj)
  refine ⟨.str (sgn cd), ?_, tk2, rfl⟩
  unfold sgns
  rw [List.map_map, List.getElem?_map, Array.getElem?_toList, e1]
  rfl
theorem tl_join_sgns (cs : List Nat) : (Txt.join (Str.ofString "") (cs.map sgn)).cps.toList = cs := by
  rw [join_eq]
  show tl (Str.join (Str.ofString "") (cs.map sgn)) = cs
  rw [tl_join]
  have e : ∀ cs : List Nat, joinL (tl (Str.ofString "")) ((cs.map sgn).map tl) = cs := fun cs => by
    induction cs with
    | nil => rfl
    | cons c cs ih =>
      cases cs with
      | nil => rfl
      | cons d cs =>
        show [c] ++ ([] ++ joinL (tl (Str.ofString "")) (((d :: cs).map sgn).map tl)) = _
        rw [ih]
        rfl
  exact e cs
end L2

set_option maxRecDepth 100000
set_option maxHeartbeats 4000000
namespace K55
open PySem PySem.Spec PyProof.Rows L2 He VH
/-! names, words, lists of them -/
abbrev sWrd : Stmt := top 15
abbrev sWds : Stmt := top 16
abbrev sSeq : Stmt := top 17
abbrev sNam : Stmt := top 19
abbrev sNms : Stmt := top 20
abbrev FnWrd (K : PySem.W.Frag) (fd : FuncData) : Prop := FnP K "is_word" sWrd (ga K "is_word") fd
abbrev FnWds (K : PySem.W.Frag) (fd : FuncData) : Prop := FnP K "are_words" sWds (ga K "are_words") fd
abbrev FnSeq (K : PySem.W.Frag) (fd : FuncData) : Prop := FnP K "is_sequence" sSeq (ga K "is_sequence") fd
abbrev FnNam (K : PySem.W.Frag) (fd : FuncData) : Prop := FnP K "is_name" sNam (ga K "is_name") fd
abbrev FnNms (K : PySem.W.Frag) (fd : FuncData) : Prop := FnP K "are_names" sNms (ga K "are_names") fd
theorem bWrd {K : PySem.W.Frag} {fd : FuncData} (F : FnWrd K fd) : Binds K fd ["value", "words"] [] := FunD.bindsN F fun _ _ _ _ _ _ us hl => match us, hl with | [_, _], _ => rfl
theorem bWds {K : PySem.W.Frag} {fd : FuncData} (F : FnWds K fd) : Binds K fd ["values", "words"] [] := FunD.bindsN F fun _ _ _ _ _ _ us hl => match us, hl with | [_, _], _ => rfl
theorem bSeq {K : PySem.W.Frag} {fd : FuncData} (F : FnSeq K fd) : Binds K fd ["value"] [] := FunD.bindsN F fun _ _ _ _ _ _ us hl => match us, hl with | [_], _ => rfl
theorem bNam {K : PySem.W.Frag} {fd : FuncData} (F : FnNam K fd) : Binds K fd ["value"] [] := FunD.bindsN F fun _ _ _ _ _ _ us hl => match us, hl with | [_], _ => rfl
theorem bNms {K : PySem.W.Frag} {fd : FuncData} (F : FnNms K fd) : Binds K fd ["value"] [] := FunD.bindsN F fun _ _ _ _ _ _ us hl => match us, hl with | [_], _ => rfl
theorem inV_strs {z : Str} {ws : List Str} : inV (.str z) (ws.map V.str) = ws.contains z := by
  induction ws with
  | nil => rfl
  | cons w ws ih =>
    rw [List.map_cons, List.contains_cons]
    show (eqV (.str w) (.str z) || inV (.str z) (ws.map V.str)) = _
    rw [ih]
    congr 1
    show decide (w = z) = (z == w)
    by_cases h : w = z
    · subst h
      simp
    · rw [decide_eq_false h]
      exact (beq_eq_false_iff_ne.mpr fun e => h e.symm).symm
theorem flat_strs {ws : List Str} : (ws.map V.str).all flatV = true := by
  rw [List.all_map]
  exact List.all_eq_true.mpr fun _ _ => rfl
theorem same_put {H G : Hp} {D : Addr} {u : HO} (s : Same H G) (n : H D = none) : Same H (upd G D u) := fun b o e => by
  rw [upd_ne (ne_of_none e n)]
  exact s b o e
def spWrd (K : PySem.W.Frag) : Sp := fun vs H Q _ => ∃ (x : V) (p : Addr) (ws : List Str), vs = [x, .ref p] ∧ SqT K H p (ws.map V.str) ∧
  ((∃ z, x = .str z ∧ Q (.bl (ws.contains z)) H) ∨ (NoTx K H x ∧ Q (.bl false) H))
def spSeq (K : PySem.W.Frag) : Sp := fun vs H Q _ => ∃ x : V, vs = [x] ∧ ((∃ (a : Addr) (xs : List V), x = .ref a ∧ SqV K H a xs ∧ ∀ H', Same H H' → Q (.bl true) H') ∨ (NoSq K H x ∧ ∀ H', Same H H' → Q (.bl false) H'))
section
variable {P : Program} {w : World} {K : PySem.W.Frag} {mg : Str → Option Value} {base : Heap} {f : Addr} {fd fdW fdS fdN : FuncData}
theorem scWrd : FnScope ["value", "words"] ["value", "words"] (defScope sWrd) := ⟨rfl, rfl, rfl, by decide +kernel, rfl, by decide +kernel, by decide +kernel⟩
theorem ok_wrd (F : FnP K "is_word" sWrd f fd) (T : Txt K mg w) : FnOk P w K mg base CX0 1 f fd ["value", "words"] (spWrd K) := by
  refine F.ok scWrd (fun vs H Q E h => ?_) (fun cdv A outer s H vs Q E hr h => ?_)
  · obtain ⟨x, p, ws, rfl, _⟩ := h
    rfl
  refine ⟨_, PSs.nox (pss_one (ps_ret (pe_and (pe_callB call_isi (by rfl) T.g_isinstance boot_isinstance (pa_cons (pv 0) (pa_cons (pe_bltn (v := .ty "str") (by rfl) T.g_str boot_str rfl) pa_nil))) (pe_one (pe_cmpR op_in_seq (pv 0) (pv 1) (by rfl)))))), ?_⟩
  obtain ⟨x, p, ws, rfl, hp, h⟩ := h
  rcases h with ⟨z, rfl, q⟩ | ⟨no, q⟩
  · refine ⟨_, rfl, _, _, _, _, true, rfl, .ty "str", .base (.str z), kit_ty (by decide +kernel), true, rfl, iteT ?_⟩
    refine ⟨_, rfl, _, rfl, p, _, rfl, .inr hp, rfl, flat_strs, ?_⟩
    rw [inV_strs]
    exact q
  · obtain ⟨t, ty, k⟩ := no H (Same.refl H)
    exact ⟨_, rfl, _, _, _, _, false, rfl, .ty "str", ty, k, false, rfl, iteF q⟩
theorem scSeq : FnScope ["value"] ["value"] (defScope sSeq) := ⟨rfl, rfl, rfl, by decide +kernel, rfl, by decide +kernel, by decide +kernel⟩
theorem sqv_ty {K : PySem.W.Frag} {H : Hp} {a : Addr} {xs : List V} (h : SqV K H a xs) : (∃ t : String, (t = "list" ∨ t = "tuple") ∧ TyX K H (.ref a) (.type t)) := by
  rcases h with ((h | ⟨o, h⟩) | ⟨o, its, n, h1, h2, _⟩) | ((h | ⟨o, h⟩) | ⟨o, its, n, h1, h2, _⟩)
  · exact ⟨"list", .inl rfl, .base (.lst h)⟩
  · exact ⟨"list", .inl rfl, .base (.frz h)⟩
  · exact ⟨"list", .inl rfl, .kList h1 h2⟩
  · exact ⟨"tuple", .inr rfl, .base (.tup h)⟩
  · exact ⟨"tuple", .inr rfl, .fTuple h⟩
  · exact ⟨"tuple", .inr rfl, .kTuple h1 h2⟩
theorem ok_seq (F : FnP K "is_sequence" sSeq f fd) (T : Txt K mg w) : FnOk P w K mg base CX0 1 f fd ["value"] (spSeq K) := by
  refine F.ok scSeq (fun vs H Q E h => ?_) (fun cdv A outer s H vs Q E hr h => ?_)
  · obtain ⟨x, rfl, _⟩ := h
    rfl
  refine ⟨_, PSs.nox (pss_one (ps_ret (pe_callB call_isiT (by rfl) T.g_isinstance boot_isinstance (pa_cons (pv 0) (pa_cons (pe_tup (pa_cons (pe_bltn (v := .ty "list") (by rfl) T.g_list boot_list rfl) (pa_cons (pe_bltn (v := .ty "tuple") (by rfl) T.g_tuple boot_tuple rfl) pa_nil))) pa_nil))))), ?_⟩
  obtain ⟨x, rfl, h⟩ := h
  refine ⟨_, rfl, (show 2 ≤ sizeLine by decide), fun tp np => ?_⟩
  have S := Same.new (o := .tup [.ty "list", .ty "tuple"]) np
  rcases h with ⟨a, xs, rfl, hv, k⟩ | ⟨no, k⟩
  · obtain ⟨t, ht, ty⟩ := sqv_ty (hv.same S)
    refine ⟨_, tp, _, _, _, true, rfl, upd_same, .cons (.ty _) (.cons (.ty _) .nil), ty, ?_, k _ S⟩
    rcases ht with rfl | rfl
    · exact kitAny_cons (b := true) (kit_ty (by decide +kernel)) (fun e => Bool.noConfusion e) (fun _ => rfl)
    · exact kitAny_cons (b := false) (kit_ty (by decide +kernel)) (fun _ => kitAny_cons (b := true) (kit_ty (by decide +kernel)) (fun e => Bool.noConfusion e) (fun _ => rfl)) (fun e => Bool.noConfusion e)
  · obtain ⟨t, ty, k1, k2⟩ := no _ S
    exact ⟨_, tp, _, _, _, false, rfl, upd_same, .cons (.ty _) (.cons (.ty _) .nil), ty, kitAny_cons (b := false) k1 (fun _ => kitAny_cons (b := false) k2 (fun _ => kitAny_nil) (fun e => Bool.noConfusion e)) (fun e => Bool.noConfusion e), k _ S⟩
abbrev LET : Str := "abcdefghijklmnopqrstuvwxyz"
/-- a name: 1 to 12 small letters -/
def nameB (z : Str) : Bool := decide (1 ≤ (z.length : Int)) && (decide ((z.length : Int) ≤ 12) && z.cps.toList.all fun c => decide (c ∈ LET.cps.toList))
def spNam (K : PySem.W.Frag) : Sp := fun vs H Q _ => ∃ x : V, vs = [x] ∧ ((∃ z : Str, x = .str z ∧ z.length ≤ 1000 ∧ ∀ H', Same H H' → Q (.bl (nameB z)) H') ∨ (NoTx K H x ∧ ∀ H', Same H H' → Q (.bl false) H'))
theorem scNam : FnScope ["value", "letter"] ["value"] (defScope sNam) := ⟨rfl, rfl, rfl, by decide +kernel, rfl, by decide +kernel, by decide +kernel⟩
theorem ok_nam (F : FnP K "is_name" sNam f fd) (T : Txt K mg w) : FnOk P w K mg base CX0 1 f fd ["value"] (spNam K) := by
  obtain ⟨tl, hL⟩ := T.s_LETTERS
  refine F.ok scNam (fun vs H Q E h => ?_) (fun cdv A outer s H vs Q E hr h => ?_)
  · obtain ⟨x, rfl, _⟩ := h
    rfl
  refine ⟨_, PSs.nox (pss_one (ps_ret (pe_and (pe_callB call_isi (by rfl) T.g_isinstance boot_isinstance (pa_cons (pv 0) (pa_cons (pe_bltn (v := .ty "str") (by rfl) T.g_str boot_str rfl) pa_nil)))
    (pe_and (pe_chain op_le op_le pe_int (pe_callB call_len_str (by rfl) T.g_len boot_len (pa_cons (pv 0) pa_nil)) pe_int)
    (pe_one (pe_callB (cr_all rfl) (by rfl) T.g_all boot_all (pa_cons (pe_lc (own := [("letter", 1)]) (g := gName 1) (tt := tYes) rfl scNam.nd (pi_str (pv 0)) (blkOk_by (N := ["value", "letter"]) (sc := defScope sNam) (by decide +kernel))
      (fun _ _ _ _ _ => pg_name (i := 1) scNam.nd rfl (Or.inl rfl)) (fun _ _ _ _ _ => pts_nil) (fun _ _ _ _ _ => pe_cmpR op_in_sign (pv 1) (pe_glob (v := .str LET) (by rfl) hL ⟨_, rfl⟩) (by rfl))) pa_nil))))))), ?_⟩
  obtain ⟨x, rfl, h⟩ := h
  rcases h with ⟨z, rfl, few, k⟩ | ⟨no, k⟩
  · unfold nameB at k
    have big : 1000 < sizeLine := by decide
    refine ⟨_, rfl, _, _, _, _, true, rfl, .ty "str", .base (.str z), kit_ty (by decide +kernel), true, rfl, iteT ?_⟩
    refine ⟨_, rfl, z, rfl, by omega, _, _, rfl, rfl, ?_⟩
    refine ⟨_, rfl, ?_⟩
    cases l1 : decide (1 ≤ (z.length : Int)) with
    | false =>
      rw [l1] at k
      exact iteF ⟨_, rfl, iteF (k H (Same.refl H))⟩
    | true =>
      rw [l1] at k
      refine iteT ⟨_, _, rfl, rfl, _, rfl, ?_⟩
      cases l2 : decide ((z.length : Int) ≤ 12) with
      | false =>
        rw [l2] at k
        exact iteF (k H (Same.refl H))
      | true =>
        rw [l2] at k
        refine iteT ⟨_, rfl, z, rfl, fun D nD => ?_⟩
        refine lc_it walk_str (fun i G => Same H G ∧ G D = some (.lst (((z.cps.toList.take i).map fun c => decide (c ∈ LET.cps.toList)).map V.bl))) ⟨Same.new nD, upd_same⟩ (fun _ _ _ _ => trivial) (fun i x G G' li g y => ?_) (fun G g => ?_)
        · obtain ⟨rfl, c, hc, rfl⟩ := y
          obtain ⟨sG, hD⟩ := g
          have li2 : i < z.length := li
          refine ⟨rfl, _, rfl, c, LET, rfl, rfl, _, hD, ?_, same_put sG nD, ?_⟩
          · rw [List.length_map, List.length_map, List.length_take]
            omega
          · have hc2 : z.cps.toList[i]? = some c := by rw [Array.getElem?_toList]; exact hc
            rw [upd_same, List.take_succ, hc2]
            simp
        · obtain ⟨sG, hD⟩ := g
          have e : z.cps.toList.take z.cps.size = z.cps.toList := by rw [← Array.length_toList, List.take_length]
          rw [e] at hD
          refine ⟨D, _, rfl, SqL.of hD, ?_⟩
          rw [List.all_map]
          exact k G sG
  · obtain ⟨t, ty, kk⟩ := no H (Same.refl H)
    exact ⟨_, rfl, _, _, _, _, false, rfl, .ty "str", ty, kk, false, rfl, iteF (k H (Same.refl H))⟩
def itN : V → Bool
  | .str z => nameB z
  | _ => false
/-- a list or tuple of different names -/
def nmsB (xs : List V) : Bool := match txs? xs with
  | some cs => cs.all nameB && decide cs.Nodup
  | none => false
theorem all_itN : ∀ {xs : List V}, xs.all itN = true → ∃ cs, txs? xs = some cs ∧ cs.all nameB = true
  | [], _ => ⟨[], rfl, rfl⟩
  | x :: l, h => by
    rw [List.all_cons, Bool.and_eq_true] at h
    obtain ⟨cs, e, a⟩ := all_itN h.2
    cases x with
    | str z => exact ⟨z :: cs, by show (txs? l).map (z :: ·) = _; rw [e]; rfl, by rw [List.all_cons, a, Bool.and_true]; exact h.1⟩
    | _ => exact absurd h.1 (by simp [itN])
theorem itN_map {cs : List Str} : (cs.map V.str).all itN = cs.all nameB := by rw [List.all_map]; rfl
theorem nmsB_no {xs : List V} (h : xs.all itN = false) : nmsB xs = false := by
  unfold nmsB
  split
  · rename_i cs e
    rw [txs_some e, itN_map] at h
    rw [h]
    rfl
  · rfl
def spNms (K : PySem.W.Frag) : Sp := fun vs H Q _ => ∃ x : V, vs = [x] ∧ ((∃ (a : Addr) (xs : List V), x = .ref a ∧ SqV K H a xs ∧ Told K H xs ∧ xs.length ≤ 1000 ∧ ∀ H', Same H H' → Q (.bl (nmsB xs)) H') ∨ (NoSq K H x ∧ ∀ H', Same H H' → Q (.bl false) H'))
theorem scNms : FnScope ["value", "name"] ["value"] (defScope sNms) := ⟨rfl, rfl, rfl, by decide +kernel, rfl, by decide +kernel, by decide +kernel⟩
theorem ok_nms (F : FnP K "are_names" sNms f fd) (T : Txt K mg w) (FS : FnSeq K fdS) (FN : FnNam K fdN) : FnOk P w K mg base CX0 2 f fd ["value"] (spNms K) := by
  have GS : FnOk P w K mg base CX0 1 (ga K "is_sequence") fdS ["value"] (spSeq K) := ok_seq FS T
  have GN : FnOk P w K mg base CX0 1 (ga K "is_name") fdN ["value"] (spNam K) := ok_nam FN T
  refine F.ok scNms (fun vs H Q E h => ?_) (fun cdv A outer s H vs Q E hr h => ?_)
  · obtain ⟨x, rfl, _⟩ := h
    rfl
  refine ⟨_, PSs.nox (pss_cons (ps_if (PW.pt (pw_or (pt_not (pt_val (pe_call GS hr (by rfl) T.m_is_sequence FS.kp (bSeq FS) .nil pass0 (pa_cons (pv 0) pa_nil))))
      (pw_or1 (pt_not (pt_val (pe_callB (cr_all rfl) (by rfl) T.g_all boot_all (pa_cons (pe_lc (own := [("name", 1)]) (g := gName 1) (tt := tYes) rfl scNms.nd (pi_or (pi_list (pv 0)) (pi_tup (pv 0))) (blkOk_by (N := ["value", "name"]) (sc := defScope sNms) (by decide +kernel))
        (fun _ _ _ _ _ => pg_name (i := 1) scNms.nd rfl (Or.inl rfl)) (fun _ _ _ _ _ => pts_nil) (fun _ _ _ _ _ => pe_call GN hr (by rfl) T.m_is_name FN.kp (bNam FN) .nil pass0 (pa_cons (pv 1) pa_nil))) pa_nil))))))) (pss_one (ps_ret pe_bl)) pss_nil)
    (pss_one (ps_ret (pe_cmpR op_eq (pe_lenTx rfl (by rfl) T.g_len (by rfl) T.g_set (pv 0)) (pe_callB call_len_seq (by rfl) T.g_len boot_len (pa_cons (pv 0) pa_nil)) (nomark _))))), ?_⟩
  obtain ⟨x, rfl, h⟩ := h
  rcases h with ⟨a, xs, rfl, hv, td, few, k⟩ | ⟨no, k⟩
  · have big : 1000 < sizeLine := by decide
    refine ⟨_, rfl, _, rfl, .inl ⟨a, xs, rfl, hv, fun H1 S1 => ⟨true, rfl, iteF ?_⟩⟩⟩
    refine rd_notall (lc_sqv (j := 0) (xs := xs) (by rfl) (hv.same S1) (fun D i G => Same H1 G ∧ G D = some (.lst (((xs.take i).map itN).map V.bl))) (fun D i G p => p.1) (fun D nD => ⟨Same.new nD, upd_same⟩) (fun D i x G nD hx p => ?_) (fun D G p => ?_))
    · obtain ⟨sG, hD⟩ := p
      have li := (List.getElem?_eq_some_iff.mp hx).1
      have fin : ∀ (b : Bool) (G' : Hp), b = itN x → Same G G' → ∃ acc, G' D = some (.lst acc) ∧ acc.length < sizeLine ∧ Same H1 (upd G' D (.lst (acc ++ [.bl b]))) ∧ upd G' D (.lst (acc ++ [.bl b])) D = some (.lst (((xs.take (i + 1)).map itN).map V.bl)) := fun b G' e S => by
        refine ⟨_, S _ _ hD, ?_, same_put (sG.trans S) nD, ?_⟩
        · rw [List.length_map, List.length_map, List.length_take]
          omega
        · rw [upd_same, List.take_succ, hx, e]
          simp
      refine ⟨rfl, _, rfl, x, rfl, ?_⟩
      rcases td x (List.mem_of_getElem? hx) with ⟨z, rfl, lz, _⟩ | no
      · exact .inl ⟨z, rfl, lz, fun G' S => fin _ G' rfl S⟩
      · refine .inr ⟨(no.same S1).same sG, fun G' S => fin _ G' ?_ S⟩
        cases x with
        | str z =>
          obtain ⟨t, ty, kk⟩ := no H (Same.refl H)
          cases ty with
          | base b =>
            cases b
            rw [kit_ty (K := K) (r := true) (by decide +kernel)] at kk
            cases kk
        | _ => rfl
    · obtain ⟨sG, hD⟩ := p
      rw [List.take_length] at hD
      refine ⟨D, _, rfl, SqL.of hD, ?_⟩
      rw [List.all_map]
      show ∃ c, V.bl (xs.all itN) = .bl c ∧ _
      refine ⟨_, rfl, ?_⟩
      cases ha : xs.all itN with
      | false =>
        have := k G (S1.trans sG)
        rw [nmsB_no ha] at this
        exact iteT this
      | true =>
        obtain ⟨cs, ec, ac⟩ := all_itN ha
        obtain rfl := txs_some ec
        have hv2 : SqV K G a (cs.map V.str) := (hv.same S1).same sG
        have lc : cs.length ≤ 1000 := by rw [List.length_map] at few; exact few
        refine iteF ⟨_, rfl, a, cs, rfl, hv2, by omega, _, rfl, a, _, rfl, hv2, rfl, ?_⟩
        have e : decide (V.int (STX.cnt cs cs.length : Nat) = V.int ((cs.map V.str).length : Nat)) = nmsB (cs.map V.str) := by
          unfold nmsB
          rw [ec]
          show _ = (cs.all nameB && decide cs.Nodup)
          rw [ac, Bool.true_and, List.length_map]
          have q := STX.cnt_all (xs := cs) cs.length (Nat.le_refl _)
          rw [List.take_length] at q
          by_cases nd : cs.Nodup
          · rw [decide_eq_true nd, q.mpr nd]
            simp
          · rw [decide_eq_false nd]
            refine decide_eq_false fun z => nd (q.mp ?_)
            have := V.int.inj z
            omega
        rw [e]
        exact k G (S1.trans sG)
  · exact ⟨_, rfl, _, rfl, .inr ⟨no, fun H1 S1 => ⟨false, rfl, iteT (k H1 S1)⟩⟩⟩
end
end K55

set_option maxRecDepth 100000
set_option maxHeartbeats 4000000
namespace K55
open PySem PySem.Spec PyProof.Rows L2 He VH
/-! lists of words -/
theorem dpS {K : PySem.W.Frag} {H : Hp} : ∀ ws : List Str, DpAll K H (ws.map V.str) (ws.map PyData.str)
  | [] => .nil
  | w :: ws => .cons (.str w) (dpS ws)
theorem eqvS : ∀ as bs : List Str, PyData.eqvAll (as.map PyData.str) (bs.map PyData.str) = decide (as = bs)
  | [], [] => rfl
  | [], _ :: _ => rfl
  | _ :: _, [] => rfl
  | a :: as, b :: bs => by
    show (PyData.eqv (.str a) (.str b) && PyData.eqvAll (as.map PyData.str) (bs.map PyData.str)) = _
    rw [eqvS as bs]
    show ((a == b) && decide (as = bs)) = _
    by_cases h : a = b
    · subst h
      by_cases h2 : as = bs <;> simp [h2]
    · simp [h]
theorem shpAll : ∀ ws : List Str, (∀ z ∈ ws, PyData.canLay0 (.str z) = true) → PyData.canLayAll0 (ws.map PyData.str) = true ∧ PyData.depthAll (ws.map PyData.str) = 0
  | [], _ => ⟨rfl, rfl⟩
  | w :: ws, h => by
    obtain ⟨h1, h2⟩ := shpAll ws fun z hz => h z (List.mem_cons_of_mem _ hz)
    refine ⟨?_, ?_⟩
    · show (PyData.canLay0 (.str w) && PyData.canLayAll0 (ws.map PyData.str)) = true
      rw [h1, h w (List.mem_cons_self ..)]
      rfl
    · show max (PyData.depth (.str w)) (PyData.depthAll (ws.map PyData.str)) = 0
      rw [h2]
      rfl
theorem shpL {ws : List Str} (h : ∀ z ∈ ws, PyData.canLay0 (.str z) = true) : SeqAt.shaped (.list (ws.map PyData.str)) = true := by
  have z := shpAll ws h
  unfold SeqAt.shaped PyData.canLay0 PyData.depth
  rw [z.1, z.2]
  rfl
/-- whether these words stand among those, in their order -/
def wdsOk (cs ws : List Str) : Bool := cs.all ws.contains && decide (cs = ws.filter cs.contains)
def wdsB (xs : List V) (ws : List Str) : Bool := match txs? xs with
  | some cs => wdsOk cs ws
  | none => false
def itW (ws : List Str) : V → Bool
  | .str z => ws.contains z
  | _ => false
theorem all_itW {ws : List Str} : ∀ {xs : List V}, xs.all (itW ws) = true → ∃ cs, txs? xs = some cs ∧ cs.all ws.contains = true
  | [], _ => ⟨[], rfl, rfl⟩
  | x :: l, h => by
    rw [List.all_cons, Bool.and_eq_true] at h
    obtain ⟨cs, e, a⟩ := all_itW h.2
    cases x with
    | str z => exact ⟨z :: cs, by show (txs? l).map (z :: ·) = _; rw [e]; rfl, by rw [List.all_cons, a, Bool.and_true]; exact h.1⟩
    | _ => exact absurd h.1 (by simp [itW])
theorem itW_map {ws cs : List Str} : (cs.map V.str).all (itW ws) = cs.all ws.contains := by rw [List.all_map]; rfl
theorem wdsB_no {xs : List V} {ws : List Str} (h : xs.all (itW ws) = false) : wdsB xs ws = false := by
  unfold wdsB
  split
  · rename_i cs e
    rw [txs_some e, itW_map] at h
    unfold wdsOk
    rw [h]
    rfl
  · rfl
def spWds (K : PySem.W.Frag) : Sp := fun vs H Q _ => ∃ (a p : Addr) (xs : List V) (ws : List Str), vs = [.ref a, .ref p] ∧ SqV K H a xs ∧ Told K H xs ∧ xs.length ≤ 1000 ∧ (∀ H, SqT K H p (ws.map V.str)) ∧ ws.length ≤ 1000 ∧
  (∀ z ∈ ws, PyData.canLay0 (.str z) = true) ∧ ∀ H', Same H H' → Q (.bl (wdsB xs ws)) H'
section
variable {P : Program} {w : World} {K : PySem.W.Frag} {mg : Str → Option Value} {base : Heap} {f : Addr} {fd fdW : FuncData}
abbrev nWds : List Str := ["values", "words", "value", "word"]
theorem scWds : FnScope nWds ["values", "words"] (defScope sWds) := ⟨rfl, rfl, rfl, by decide +kernel, rfl, by decide +kernel, by decide +kernel⟩
theorem notx_str {K : PySem.W.Frag} {H : Hp} {z : Str} (no : NoTx K H (.str z)) : False := by
  obtain ⟨t, ty, kk⟩ := no H (Same.refl H)
  cases ty with
  | base b =>
    cases b
    rw [kit_ty (K := K) (r := true) (by decide +kernel)] at kk
    cases kk
theorem ok_wds (F : FnP K "are_words" sWds f fd) (T : Txt K mg w) (FW : FnWrd K fdW) : FnOk P w K mg base CX0 2 f fd ["values", "words"] (spWds K) := by
  have GW : FnOk P w K mg base CX0 1 (ga K "is_word") fdW ["value", "words"] (spWrd K) := ok_wrd FW T
  refine F.ok scWds (fun vs H Q E h => ?_) (fun cdv A outer s H vs Q E hr h => ?_)
  · obtain ⟨_, _, _, _, rfl, _⟩ := h
    rfl
  refine ⟨_, PSs.nox (pss_cons (ps_if (pt_not (pt_val (pe_callB (cr_all rfl) (by rfl) T.g_all boot_all (pa_cons (pe_lc (own := [("value", 2)]) (g := gName 2) (tt := tYes) rfl scWds.nd (pi_or (pi_list (pv 0)) (pi_tup (pv 0))) (blkOk_by (N := nWds) (sc := defScope sWds) (by decide +kernel))
        (fun _ _ _ _ _ => pg_name (i := 2) scWds.nd rfl (Or.inl rfl)) (fun _ _ _ _ _ => pts_nil) (fun _ _ _ _ _ => pe_call GW hr (by rfl) T.m_is_word FW.kp (bWrd FW) .nil pass0 (pa_cons (pv 2) (pa_cons (pv 1) pa_nil)))) pa_nil)))) (pss_one (ps_ret pe_bl)) pss_nil)
    (pss_one (ps_ret (pe_cmpR (op_eqD hr.units) (pe_callTy call_list_of (by rfl) T.g_list boot_list (pa_cons (pv 0) pa_nil))
      (pe_lc (own := [("word", 3)]) (g := gName 3) (tt := tTest (tOp (rIn K false) (tVar 3) (tVar 0))) (te := tVar 3) rfl scWds.nd (pi_tup (pv 1)) (blkOk_by (N := nWds) (sc := defScope sWds) (by decide +kernel))
        (fun _ _ _ _ _ => pg_name (i := 3) scWds.nd rfl (Or.inl rfl)) (fun _ _ _ _ _ => pts_one (pt_cmpR op_in_seq (pv 3) (pv 0) (by rfl))) (fun _ _ _ _ _ => pv 3)) (nomark _))))), ?_⟩
  obtain ⟨a, p, xs, ws, rfl, hv, td, few, hp, lw, lays, k⟩ := h
  have big : 1000 < sizeLine := by decide
  refine rd_seq (rd_if (rd_notall (lc_sqv (j := 0) (xs := xs) (by rfl) hv (fun D i G => Same H G ∧ G D = some (.lst (((xs.take i).map (itW ws)).map V.bl))) (fun D i G p => p.1) (fun D nD => ⟨Same.new nD, upd_same⟩) (fun D i x G nD hx p => ?_) (fun D G p => ?_))))
  · obtain ⟨sG, hD⟩ := p
    have li := (List.getElem?_eq_some_iff.mp hx).1
    have fin : ∀ b : Bool, b = itW ws x → ∃ acc, G D = some (.lst acc) ∧ acc.length < sizeLine ∧ Same H (upd G D (.lst (acc ++ [.bl b]))) ∧ upd G D (.lst (acc ++ [.bl b])) D = some (.lst (((xs.take (i + 1)).map (itW ws)).map V.bl)) := fun b e => by
      refine ⟨_, hD, ?_, same_put sG nD, ?_⟩
      · rw [List.length_map, List.length_map, List.length_take]
        omega
      · rw [upd_same, List.take_succ, hx, e]
        simp
    refine ⟨rfl, _, rfl, _, rfl, x, _, ws, rfl, hp _, ?_⟩
    rcases td x (List.mem_of_getElem? hx) with ⟨z, rfl, lz, _⟩ | no
    · exact .inl ⟨z, rfl, fin _ rfl⟩
    · refine .inr ⟨no.same sG, fin _ ?_⟩
      cases x with
      | str z => exact (notx_str no).elim
      | _ => rfl
  · obtain ⟨sG, hD⟩ := p
    rw [List.take_length] at hD
    refine ⟨D, _, rfl, SqL.of hD, ?_⟩
    rw [List.all_map]
    show ∃ c, V.bl (xs.all (itW ws)) = .bl c ∧ _
    refine ⟨_, rfl, ?_⟩
    cases ha : xs.all (itW ws) with
    | false =>
      have := k G sG
      rw [wdsB_no ha] at this
      exact iteT this
    | true =>
      obtain ⟨cs, ec, ac⟩ := all_itW ha
      obtain rfl := txs_some ec
      have hv2 : SqV K G a (cs.map V.str) := hv.same sG
      have lc : cs.length ≤ 1000 := by rw [List.length_map] at few; exact few
      have k := fun H' S => k H' S
      have ek : wdsB (cs.map V.str) ws = decide (cs = ws.filter cs.contains) := by
        unfold wdsB wdsOk
        rw [ec]
        show (cs.all ws.contains && _) = _
        rw [ac, Bool.true_and]
      rw [ek] at k
      refine iteF ⟨_, rfl, a, _, rfl, hv2, fun l nl => ?_⟩
      have sL := sG.trans (Same.new (o := .lst (cs.map V.str)) nl)
      have hl : upd G l (.lst (cs.map V.str)) l = some (.lst (cs.map V.str)) := upd_same
      generalize upd G l (.lst (cs.map V.str)) = G1 at sL hl ⊢
      refine ⟨_, rfl, p, rfl, ⟨_, hp _⟩, fun D2 hD2 => ?_⟩
      refine lc_tup (K := K) (xs := ws.map V.str) (fun i G2 => Same G1 G2 ∧ G2 D2 = some (.lst (((ws.take i).filter cs.contains).map V.str))) ⟨Same.new hD2, upd_same⟩ (fun i G2 _ g => hp _) (fun i x G2 hx g => ?_) (fun G2 g => ?_)
      · obtain ⟨s2, h2⟩ := g
        rw [List.getElem?_map] at hx
        obtain ⟨c, hc, rfl⟩ := Option.map_eq_some_iff.mp hx
        have lt := (List.getElem?_eq_some_iff.mp hc).1
        refine ⟨rfl, _, rfl, _, rfl, a, _, rfl, (hv.same sL).same s2, rfl, flat_strs, _, rfl, ?_⟩
        rw [inV_strs]
        cases hin : cs.contains c with
        | true =>
          refine iteT ⟨_, rfl, _, h2, ?_, same_put s2 hD2, ?_⟩
          · rw [List.length_map]
            have := List.length_filter_le cs.contains (ws.take i)
            rw [List.length_take] at this
            omega
          · rw [upd_same, List.take_succ, hc]
            simp only [Option.toList, List.filter_append, List.filter_cons, hin, if_true, List.filter_nil, List.map_append]
            rfl
        | false =>
          refine iteF ⟨s2, ?_⟩
          rw [h2, List.take_succ, hc]
          simp only [Option.toList, List.filter_append, List.filter_cons, hin, Bool.false_eq_true, if_false, List.filter_nil, List.append_nil]
      · obtain ⟨s2, h2⟩ := g
        rw [List.length_map, List.take_length] at h2
        have lay1 : ∀ z ∈ cs, PyData.canLay0 (.str z) = true := fun z hz => lays z (List.contains_iff_mem.mp (List.all_eq_true.mp ac z hz))
        have lay2 : ∀ z ∈ ws.filter cs.contains, PyData.canLay0 (.str z) = true := fun z hz => lays z (List.mem_filter.mp hz).1
        refine ⟨_, _, .lst (SqL.of (s2 _ _ hl)) (dpS cs), .lst (SqL.of h2) (dpS _), shpL lay1, shpL lay2, ?_⟩
        show Q (.bl (PyData.eqvAll (cs.map PyData.str) ((ws.filter cs.contains).map PyData.str))) G2
        rw [eqvS]
        exact k G2 (sL.trans s2)
end
end K55

set_option maxRecDepth 100000
set_option maxHeartbeats 4000000
/-! == of a dict and a text or a tuple: never so. -/
namespace L2
open PySem PySem.Spec PyProof.Rows SeqAt
section
variable {M : Model} {prog : Program} {w : World} {A : Around} {s : Shared} {E : Value → Shared → Prop}
theorem call_dict_eq_no {d : Addr} {y : Value} {T : String} (hd : s.TypeIs (.ref d) "dict") (hy : s.TypeIs y T) (hs : isSubtype (.type T) (.type "dict") = pure false) {Q : Value → Shared → Prop} (h : Q .notImplemented s) :
    wpAny (model prog w) A (call (.builtin "dict.__eq__") [.ref d, y]) Q E s := by
  refine wpAny_call_entry PySem.F.slot_dict_eq hd PySem.F.entry_dict_eq ?_ (PySem.F.args_dict_eq_2 _ _)
  show wpAny _ _ (Builtin.Dict.dictSlotArgs "__eq__" ⟨[.ref d, y], []⟩ >>= _) _ _ s
  refine wpAny_bind ?_
  unfold Builtin.Dict.dictSlotArgs
  refine wpAny_bind (wpAny_notOrdered_dict hd ?_)
  show wpAny _ _ (pure (Value.ref d, y)) _ _ s
  refine wpAny_pure ?_
  refine wpAny_bind (wpAny_isInstance hy hs ?_)
  simp only [Bool.not_false, if_true]
  refine wpAny_bind (wpAny_rule ?_)
  exact wpAny_pure ⟨_, rfl, h⟩
theorem call_dict_eq_refl_no {d : Addr} {y : Value} {T : String} (hd : s.TypeIs (.ref d) "dict") (hy : s.TypeIs y T) (hs : isSubtype (.type T) (.type "dict") = pure false) {Q : Value → Shared → Prop} (h : Q .notImplemented s) :
    wpAny (model prog w) A (call (.builtin "dict.__eq__") [.ref d, y]) Q E s := call_dict_eq_no hd hy hs h
end
end L2
namespace L2
open PySem PySem.Spec PyProof.Rows SeqAt MeetsSeq
open AutoSeq1 (wpAny_loadPart')
theorem str_eq_declines_dict (b : Str) (u : Tok) (l : Addr) (c : Value) (es : Array DictEntry) (ep : Nat) (dd : Option Addr) (sl : Array (Option Value)) :
    Meets (Builtin.«str.__eq__» ⟨[.str b u, .ref l], []⟩) (fun _ R s => s.heap.get? l = some { cls := c, dict := dd, data := .dict es ep, slots := sl } ∧ R (.ok (.ret .notImplemented)) s) :=
  .of_wp fun prog w A R s h => by obtain ⟨hp, g, d, tk, os⟩ := s; obtain ⟨hl, h⟩ := h; wp_walk using wpAny_loadPart' hl, wpAny_load hl; exact ⟨_, rfl, h⟩
theorem tuple_eq_declines_dict (l b : Addr) (items : Array Value) (n : Nat) (es : Array DictEntry) (ep : Nat) (dd dd2 : Option Addr) (sl sl2 : Array (Option Value)) :
    Meets (Builtin.«tuple.__eq__» ⟨[.ref l, .ref b], []⟩) (fun _ R s => s.heap.get? l = some { cls := .type "tuple", dict := dd, data := .seq items n, slots := sl } ∧ s.heap.get? b = some { cls := .type "dict", dict := dd2, data := .dict es ep, slots := sl2 } ∧ R (.ok (.ret .notImplemented)) s) :=
  .of_wp fun prog w A R s h => by obtain ⟨hp, g, d, tk, os⟩ := s; obtain ⟨hl, hb, h⟩ := h; have f1 := F.sub_dict_tuple; wp_walk using wpAny_loadPart' hl, wpAny_loadPart' hb; exact ⟨_, rfl, h⟩
section
variable {A : Around} {s : Shared}
/-- a dict of the model's -/
def IsDct (s : Shared) (d : Addr) : Prop := ∃ (es : Array DictEntry) (ep : Nat) (dd : Option Addr) (sl : Array (Option Value)), s.heap.get? d = some { cls := .type "dict", dict := dd, data := .dict es ep, slots := sl }
theorem IsDct.ty {d : Addr} (h : IsDct s d) : s.TypeIs (.ref d) "dict" := let ⟨_, _, _, _, e⟩ := h; ⟨_, e, rfl⟩
theorem RcAt.str_dict {d : Addr} (b : Str) (u : Tok) (hl : IsDct s d) (hu : A.units < cLine) : RcAt A s (.str b u) (.ref d) false := fun prog w E Q h => by
  have ty := hl.ty
  obtain ⟨es, ep, dd, sl, ho⟩ := hl
  exact rc_eq_decline_or (k := false) rfl ty (by decide) F.sub_dict_str F.slot_str_eq F.slot_dict_eq_refl
    (fun _ hq => call_meets F.slot_str_eq rfl F.entry_str_eq (F.args_str_eq_2 _ _) (str_eq_declines_dict b u d _ es ep dd sl) ⟨ho, hq⟩)
    (fun _ hq => call_dict_eq_no ty (y := .str b u) (T := "str") rfl F.sub_str_dict hq)
    (fun _ hq => wpAny_of_eq (rfl : isSame (.str b u) (.ref d) = pure false) hq) (.inr hu) h
theorem RcAt.dict_str {d : Addr} (b : Str) (u : Tok) (hl : IsDct s d) (hu : A.units < cLine) : RcAt A s (.ref d) (.str b u) false := fun prog w E Q h => by
  have ty := hl.ty
  obtain ⟨es, ep, dd, sl, ho⟩ := hl
  exact rc_eq_decline_or (k := false) ty rfl (by decide) F.sub_str_dict F.slot_dict_eq F.slot_str_eq_refl
    (fun _ hq => call_dict_eq_no ty (y := .str b u) (T := "str") rfl F.sub_str_dict hq)
    (fun _ hq => call_meets F.slot_str_eq_refl rfl F.entry_str_eq (F.args_str_eq_2 _ _) (str_eq_declines_dict b u d _ es ep dd sl) ⟨ho, hq⟩)
    (fun _ hq => wpAny_of_eq (rfl : isSame (.ref d) (.str b u) = pure false) hq) (.inr hu) h
theorem EqAt.str_dict {d : Addr} (b : Str) (u : Tok) (hl : IsDct s d) (hu : A.units < cLine) : EqAt A s (.str b u) (.ref d) false := fun prog w E Q h => by
  unfold eqBool
  refine wpAny_holding ?_
  refine wpAny_ite_split (fun hab => absurd (eq_of_beq hab) nofun) (fun _ => ?_)
  exact wpAny_bind (RcAt.str_dict b u hl hu prog w E _ (wpAny_truthy_bool h))
theorem EqAt.dict_str {d : Addr} (b : Str) (u : Tok) (hl : IsDct s d) (hu : A.units < cLine) : EqAt A s (.ref d) (.str b u) false := fun prog w E Q h => by
  unfold eqBool
  refine wpAny_holding ?_
  refine wpAny_ite_split (fun hab => absurd (eq_of_beq hab) nofun) (fun _ => ?_)
  exact wpAny_bind (RcAt.dict_str b u hl hu prog w E _ (wpAny_truthy_bool h))
theorem ne_of_tuple_dict {l b : Addr} {items : Array Value} (hl : s.heap.IsTuple l items) (hb : IsDct s b) : l ≠ b := fun e => by
  subst e
  obtain ⟨o, ho, hc, _⟩ := hl
  obtain ⟨_, _, _, _, ho2⟩ := hb
  rw [ho] at ho2
  cases ho2
  exact absurd hc (by simp)
theorem RcAt.tuple_dict {l b : Addr} {items : Array Value} (hl : s.heap.IsTuple l items) (hb : IsDct s b) (hu : A.units < cLine) : RcAt A s (.ref l) (.ref b) false := fun prog w E Q h => by
  have hne := ne_of_tuple_dict hl hb
  have ty := hb.ty
  obtain ⟨⟨cls, dd, data, sl⟩, ho, hc, n, hd⟩ := id hl
  obtain ⟨es, ep, dd2, sl2, ho2⟩ := hb
  simp only at hc hd
  subst hc hd
  exact (rc_eq_decline_or (k := false) ⟨_, ho, rfl⟩ ty (by decide) F.sub_dict_tuple F.slot_tuple_eq F.slot_dict_eq_refl
    (fun _ hq => call_meets F.slot_tuple_eq ⟨_, ho, rfl⟩ F.entry_tuple_eq (F.args_tuple_eq_2 _ _) (tuple_eq_declines_dict l b items n es ep dd dd2 sl sl2) ⟨ho, ho2, hq⟩)
    (fun _ hq => call_dict_eq_no ty (y := .ref l) (T := "tuple") ⟨_, ho, rfl⟩ F.sub_tuple_dict hq)
    (fun _ hq => wpAny_isSame_ref_other' hne ho ho2 (by simp) hq) (.inr hu) h)
theorem EqAt.tuple_dict {l b : Addr} {items : Array Value} (hl : s.heap.IsTuple l items) (hb : IsDct s b) (hu : A.units < cLine) : EqAt A s (.ref l) (.ref b) false := .of_refs (ne_of_tuple_dict hl hb) (RcAt.tuple_dict hl hb hu)
end
end L2

set_option maxRecDepth 100000
set_option maxHeartbeats 4000000
/-! == and in, over things of any kind: a tree for each thing; dicts and their like are a leaf. -/
namespace L2
open PySem PySem.Spec PyProof.Rows SeqAt
inductive Tr where
  | non
  | bl (b : Bool)
  | int (i : Int)
  | str (z : Str)
  | dct
  | tup (ts : List Tr)
  | lst (ts : List Tr)
namespace Tr
mutual
/-- what == tells, where a rule speaks of it -/
def eq : Tr → Tr → Option Bool
  | .non, .non => some true
  | .non, .bl _ => some false
  | .non, .int _ => some false
  | .non, .str _ => some false
  | .non, .tup _ => some false
  | .non, .lst _ => some false
  | .bl a, .bl b => some (a == b)
  | .bl a, .int i => some ((if a then 1 else 0) == i)
  | .bl _, .non => some false
  | .bl _, .str _ => some false
  | .bl _, .tup _ => some false
  | .bl _, .lst _ => some false
  | .int i, .int j => some (i == j)
  | .int i, .bl b => some (i == (if b then 1 else 0))
  | .int _, .non => some false
  | .int _, .str _ => some false
  | .int _, .tup _ => some false
  | .int _, .lst _ => some false
  | .str a, .str b => some (a == b)
  | .str _, .non => some false
  | .str _, .bl _ => some false
  | .str _, .int _ => some false
  | .str _, .tup _ => some false
  | .str _, .lst _ => some false
  | .str _, .dct => some false
  | .dct, .str _ => some false
  | .tup _, .dct => some false
  | .tup _, .non => some false
  | .tup _, .bl _ => some false
  | .tup _, .int _ => some false
  | .tup _, .str _ => some false
  | .tup _, .lst _ => some false
  | .lst _, .non => some false
  | .lst _, .bl _ => some false
  | .lst _, .int _ => some false
  | .lst _, .str _ => some false
  | .lst _, .tup _ => some false
  | .tup xs, .tup ys => eqs xs ys
  | .lst xs, .lst ys => if xs.length = ys.length then eqs xs ys else some false
  | .non, .dct => none
  | .bl _, .dct => none
  | .int _, .dct => none
  | .lst _, .dct => none
  | .dct, .non => none
  | .dct, .bl _ => none
  | .dct, .int _ => none
  | .dct, .tup _ => none
  | .dct, .lst _ => none
  | .dct, .dct => none
def eqs : List Tr → List Tr → Option Bool
  | [], [] => some true
  | [], _ :: _ => some false
  | _ :: _, [] => some false
  | x :: xs, y :: ys => match eq x y, eqs xs ys with
    | some b, some c => some (b && c)
    | _, _ => none
end
mutual
def dep : Tr → Nat
  | .tup ts => deps ts + 1
  | .lst ts => deps ts + 1
  | _ => 0
def deps : List Tr → Nat
  | [] => 0
  | t :: ts => max (dep t) (deps ts)
end
mutual
theorem eq_self : ∀ (t : Tr) (b : Bool), eq t t = some b → b = true
  | .non, b, h => by simpa [eq] using h.symm
  | .bl _, b, h => by simp [eq] at h; exact h
  | .int _, b, h => by simp [eq] at h; exact h
  | .str _, b, h => by simp [eq] at h; exact h
  | .dct, b, h => by simp [eq] at h
  | .tup xs, b, h => eqs_self xs b (by simpa [eq] using h)
  | .lst xs, b, h => eqs_self xs b (by simpa [eq] using h)
theorem eqs_self : ∀ (ts : List Tr) (b : Bool), eqs ts ts = some b → b = true
  | [], b, h => by simpa [eqs] using h.symm
  | t :: ts, b, h => by
    simp only [eqs] at h
    cases e : eq t t with
    | none => rw [e] at h; simp at h
    | some c =>
      rw [e] at h
      cases e2 : eqs ts ts with
      | none => rw [e2] at h; simp at h
      | some d =>
        rw [e2] at h
        have h : (c && d) = b := Option.some.inj h
        rw [← h, eq_self t c e, eqs_self ts d e2]
        rfl
end
end Tr
mutual
inductive At (K : PySem.W.Frag) (H : Hp) : V → Tr → Prop
  | non : At K H .non .non
  | bl {b : Bool} : At K H (.bl b) (.bl b)
  | int {i : Int} : At K H (.int i) (.int i)
  | str {z : Str} : At K H (.str z) (.str z)
  | dct {a : Addr} {kvs : List (Key × V)} (h : H a = some (.dK kvs)) : At K H (.ref a) .dct
  | tup {a : Addr} {xs : List V} {ts : List Tr} (h : SqT K H a xs) (hs : Ats K H xs ts) : At K H (.ref a) (.tup ts)
  | lst {a : Addr} {xs : List V} {ts : List Tr} (h : SqL K H a xs) (hs : Ats K H xs ts) : At K H (.ref a) (.lst ts)
inductive Ats (K : PySem.W.Frag) (H : Hp) : List V → List Tr → Prop
  | nil : Ats K H [] []
  | cons {x : V} {t : Tr} {xs : List V} {ts : List Tr} (h : At K H x t) (hs : Ats K H xs ts) : Ats K H (x :: xs) (t :: ts)
end
theorem Ats.len {K : PySem.W.Frag} {H : Hp} : ∀ {xs : List V} {ts : List Tr}, Ats K H xs ts → xs.length = ts.length
  | [], [], _ => rfl
  | _ :: _, _ :: _, .cons _ h => congrArg Nat.succ h.len
/-- what stands fast in tuples and texts stays -/
theorem sqT_same' {K : PySem.W.Frag} {H H' : Hp} {a : Addr} {xs : List V} (s : Same H H') (h : SqT K H a xs) : SqT K H' a xs := by
  rcases h with (h | ⟨o, h⟩) | h
  · exact .inl (.inl (s _ _ h))
  · exact .inl (.inr ⟨o, s _ _ h⟩)
  · exact .inr h
theorem sqL_same' {K : PySem.W.Frag} {H H' : Hp} {a : Addr} {xs : List V} (s : Same H H') (h : SqL K H a xs) : SqL K H' a xs := by
  rcases h with (h | ⟨o, h⟩) | h
  · exact .inl (.inl (s _ _ h))
  · exact .inl (.inr ⟨o, s _ _ h⟩)
  · exact .inr h
mutual
theorem At.same {K : PySem.W.Frag} {H H' : Hp} (s : Same H H') : ∀ {x : V} {t : Tr}, At K H x t → At K H' x t
  | _, _, .non => .non
  | _, _, .bl => .bl
  | _, _, .int => .int
  | _, _, .str => .str
  | _, _, .dct h => .dct (s _ _ h)
  | _, _, .tup h hs => .tup (sqT_same' s h) (hs.same s)
  | _, _, .lst h hs => .lst (sqL_same' s h) (hs.same s)
theorem Ats.same {K : PySem.W.Frag} {H H' : Hp} (s : Same H H') : ∀ {xs : List V} {ts : List Tr}, Ats K H xs ts → Ats K H' xs ts
  | _, _, .nil => .nil
  | _, _, .cons h hs => .cons (h.same s) (hs.same s)
end
section
variable {X : Cx} {pins : List (Addr × Obj)} {σ : St} {H : Hp} {s : Shared}
theorem Inv.isDct (I : Inv X pins σ H s) {a : Addr} {kvs : List (Key × V)} (h : H a = some (.dK kvs)) : IsDct s a := by
  obtain ⟨_, _, va, _, o, es, ep, ho, hc, hd, _⟩ := (show ObjOk X.prog X.w H s.heap a (.dK kvs) from I.hok a _ h)
  obtain ⟨cls, dd, data, sl⟩ := o
  simp only at hd
  have hc : cls = .type "dict" := hc.1
  subst hc hd
  exact ⟨es, ep, dd, sl, ho⟩
mutual
theorem At.inj (I : Inv X pins σ H s) : ∀ {x : V} {t u : Tr}, At X.K H x t → At X.K H x u → t = u
  | _, _, _, .non, .non => rfl
  | _, _, _, .bl, .bl => rfl
  | _, _, _, .int, .int => rfl
  | _, _, _, .str, .str => rfl
  | _, _, _, .dct _, .dct _ => rfl
  | _, _, _, .dct h, .tup h' _ => by
    obtain ⟨_, _, ⟨o, ho, hc, _⟩, _⟩ := I.tuple h'
    obtain ⟨_, _, _, _, e⟩ := I.isDct h
    rw [e] at ho
    cases ho
    exact absurd hc (by simp)
  | _, _, _, .dct h, .lst h' _ => by
    obtain ⟨_, _, p, _⟩ := I.list h'
    obtain ⟨o, ho, hc, _⟩ := p.isList
    obtain ⟨_, _, _, _, e⟩ := I.isDct h
    rw [e] at ho
    cases ho
    exact absurd hc (by simp)
  | _, _, _, .tup h' _, .dct h => by
    obtain ⟨_, _, ⟨o, ho, hc, _⟩, _⟩ := I.tuple h'
    obtain ⟨_, _, _, _, e⟩ := I.isDct h
    rw [e] at ho
    cases ho
    exact absurd hc (by simp)
  | _, _, _, .lst h' _, .dct h => by
    obtain ⟨_, _, p, _⟩ := I.list h'
    obtain ⟨o, ho, hc, _⟩ := p.isList
    obtain ⟨_, _, _, _, e⟩ := I.isDct h
    rw [e] at ho
    cases ho
    exact absurd hc (by simp)
  | _, _, _, .tup h hs, .tup h' hs' => by
    cases I.tuple_inj h h'
    rw [Ats.inj I hs hs']
  | _, _, _, .lst h hs, .lst h' hs' => by
    cases I.list_inj h h'
    rw [Ats.inj I hs hs']
  | _, _, _, .tup h _, .lst h' _ => by
    obtain ⟨_, _, t, _⟩ := I.tuple h
    obtain ⟨_, _, p, _⟩ := I.list h'
    exact absurd rfl (ne_of_list_tuple p.isList t)
  | _, _, _, .lst h' _, .tup h _ => by
    obtain ⟨_, _, t, _⟩ := I.tuple h
    obtain ⟨_, _, p, _⟩ := I.list h'
    exact absurd rfl (ne_of_list_tuple p.isList t)
theorem Ats.inj (I : Inv X pins σ H s) : ∀ {xs : List V} {ts us : List Tr}, Ats X.K H xs ts → Ats X.K H xs us → ts = us
  | _, _, _, .nil, .nil => rfl
  | _, _, _, .cons h hs, .cons h' hs' => by rw [At.inj I h h', Ats.inj I hs hs']
end

mutual
theorem eqAt_T (I : Inv X pins σ H s) : ∀ (t u : Tr) (b : Bool), Tr.eq t u = some b → ∀ {x y : V} {v w : Value} {A : Around}, At X.K H x t → At X.K H y u → RelV x v → RelV y w → A.units + t.dep < cLine → EqAt A s v w b
  | .non, .non, b, e, x, y, v, w, A, hx, hy, rx, ry, hu => by
    cases hx; cases hy; cases rx; cases ry
    cases Option.some.inj e
    exact EqAt.same _
  | .tup ts, .tup us, b, e, x, y, v, w, A, hx, hy, rx, ry, hu => by
    cases hx with
    | tup h1 hs1 =>
      cases hy with
      | tup h2 hs2 =>
        rename_i a1 xs1 a2 xs2
        cases (show v = Value.ref a1 from rx)
        cases (show w = Value.ref a2 from ry)
        by_cases ne : a1 = a2
        · subst ne
          cases I.tuple_inj h1 h2
          cases Ats.inj I hs1 hs2
          have : b = true := Tr.eq_self (.tup ts) b e
          rw [this]
          exact EqAt.same _
        · refine EqAt.of_refs ne ?_
          obtain ⟨vs, r1, ⟨o1, g1, c1, n1, d1⟩, _⟩ := I.tuple h1
          obtain ⟨ws, r2, ⟨o2, g2, c2, n2, d2⟩, _⟩ := I.tuple h2
          have e' : Tr.eqs ts us = some b := by simpa [Tr.eq] using e
          have hu' : A.in1.units + Tr.deps ts < cLine := by
            have : A.units + (Tr.deps ts + 1) < cLine := hu
            show A.units + 1 + Tr.deps ts < cLine
            omega
          obtain ⟨f, hf, eb⟩ := eqAts_T I ts us b e' (A := A.in1) hs1 hs2 r1 r2 hu'
          have hh := SeqAt.RcAt.tuples (s := s) (A := A) (e := f) ⟨o1, g1, c1, n1, d1⟩ ⟨o2, g2, c2, n2, d2⟩ (by omega) (fun j k1 k2 => by
            have := hf j (by simpa using k1) (by simpa using k2)
            simpa using this)
          rw [List.size_toArray, List.size_toArray, ← eb] at hh
          exact hh
  | .non, .bl q, b, e, x, y, v, w, A, hx, hy, rx, ry, hu => by
    cases hx; cases hy
    cases rx
    cases ry
    cases Option.some.inj e
    exact EqAt.none_bool _
  | .non, .int q, b, e, x, y, v, w, A, hx, hy, rx, ry, hu => by
    cases hx; cases hy
    cases rx
    obtain ⟨_, rfl⟩ := ry
    cases Option.some.inj e
    exact EqAt.none_int _ _
  | .non, .str q, b, e, x, y, v, w, A, hx, hy, rx, ry, hu => by
    cases hx; cases hy
    cases rx
    obtain ⟨_, rfl⟩ := ry
    cases Option.some.inj e
    exact EqAt.none_str _ _
  | .bl p, .non, b, e, x, y, v, w, A, hx, hy, rx, ry, hu => by
    cases hx; cases hy
    cases rx
    cases ry
    cases Option.some.inj e
    exact EqAt.bool_none _
  | .bl p, .bl q, b, e, x, y, v, w, A, hx, hy, rx, ry, hu => by
    cases hx; cases hy
    cases rx
    cases ry
    cases Option.some.inj e
    exact EqAt.bool_bool _ _
  | .bl p, .int q, b, e, x, y, v, w, A, hx, hy, rx, ry, hu => by
    cases hx; cases hy
    cases rx
    obtain ⟨_, rfl⟩ := ry
    cases Option.some.inj e
    exact EqAt.bool_int _ _ _
  | .bl p, .str q, b, e, x, y, v, w, A, hx, hy, rx, ry, hu => by
    cases hx; cases hy
    cases rx
    obtain ⟨_, rfl⟩ := ry
    cases Option.some.inj e
    exact EqAt.bool_str _ _ _
  | .int p, .non, b, e, x, y, v, w, A, hx, hy, rx, ry, hu => by
    cases hx; cases hy
    obtain ⟨_, rfl⟩ := rx
    cases ry
    cases Option.some.inj e
    exact EqAt.int_none _ _
  | .int p, .bl q, b, e, x, y, v, w, A, hx, hy, rx, ry, hu => by
    cases hx; cases hy
    obtain ⟨_, rfl⟩ := rx
    cases ry
    cases Option.some.inj e
    exact EqAt.int_bool _ _ _
  | .int p, .int q, b, e, x, y, v, w, A, hx, hy, rx, ry, hu => by
    cases hx; cases hy
    obtain ⟨_, rfl⟩ := rx
    obtain ⟨_, rfl⟩ := ry
    cases Option.some.inj e
    exact EqAt.int_int _ _ _ _
  | .int p, .str q, b, e, x, y, v, w, A, hx, hy, rx, ry, hu => by
    cases hx; cases hy
    obtain ⟨_, rfl⟩ := rx
    obtain ⟨_, rfl⟩ := ry
    cases Option.some.inj e
    exact EqAt.int_str _ _ _ _
  | .str p, .non, b, e, x, y, v, w, A, hx, hy, rx, ry, hu => by
    cases hx; cases hy
    obtain ⟨_, rfl⟩ := rx
    cases ry
    cases Option.some.inj e
    exact EqAt.str_none _ _
  | .str p, .bl q, b, e, x, y, v, w, A, hx, hy, rx, ry, hu => by
    cases hx; cases hy
    obtain ⟨_, rfl⟩ := rx
    cases ry
    cases Option.some.inj e
    exact EqAt.str_bool _ _ _
  | .str p, .int q, b, e, x, y, v, w, A, hx, hy, rx, ry, hu => by
    cases hx; cases hy
    obtain ⟨_, rfl⟩ := rx
    obtain ⟨_, rfl⟩ := ry
    cases Option.some.inj e
    exact EqAt.str_int _ _ _ _
  | .str p, .str q, b, e, x, y, v, w, A, hx, hy, rx, ry, hu => by
    cases hx; cases hy
    obtain ⟨_, rfl⟩ := rx
    obtain ⟨_, rfl⟩ := ry
    cases Option.some.inj e
    exact EqAt.str_str _ _ _ _
  | .non, .tup q, b, e, x, y, v, w, A, hx, hy, rx, ry, hu => by
    cases hx
    cases hy with
    | tup h2 hs2 =>
      rename_i a2 xs2
      cases rx
      cases (show w = Value.ref a2 from ry)
      cases Option.some.inj e
      obtain ⟨_, _, pl, _⟩ := I.tuple h2
      exact EqAt.none_tuple  pl (by omega)
  | .tup q, .non, b, e, x, y, v, w, A, hx, hy, rx, ry, hu => by
    cases hy
    cases hx with
    | tup h1 hs1 =>
      rename_i a1 xs1
      cases ry
      cases (show v = Value.ref a1 from rx)
      cases Option.some.inj e
      obtain ⟨_, _, pl, _⟩ := I.tuple h1
      exact EqAt.tuple_none  pl (by omega)
  | .non, .lst q, b, e, x, y, v, w, A, hx, hy, rx, ry, hu => by
    cases hx
    cases hy with
    | lst h2 hs2 =>
      rename_i a2 xs2
      cases rx
      cases (show w = Value.ref a2 from ry)
      cases Option.some.inj e
      obtain ⟨_, _, pl, _⟩ := I.list h2
      exact EqAt.none_list  pl.isList (by omega)
  | .lst q, .non, b, e, x, y, v, w, A, hx, hy, rx, ry, hu => by
    cases hy
    cases hx with
    | lst h1 hs1 =>
      rename_i a1 xs1
      cases ry
      cases (show v = Value.ref a1 from rx)
      cases Option.some.inj e
      obtain ⟨_, _, pl, _⟩ := I.list h1
      exact EqAt.list_none  pl.isList (by omega)
  | .bl p, .tup q, b, e, x, y, v, w, A, hx, hy, rx, ry, hu => by
    cases hx
    cases hy with
    | tup h2 hs2 =>
      rename_i a2 xs2
      cases rx
      cases (show w = Value.ref a2 from ry)
      cases Option.some.inj e
      obtain ⟨_, _, pl, _⟩ := I.tuple h2
      exact EqAt.bool_tuple _ pl (by omega)
  | .tup q, .bl p, b, e, x, y, v, w, A, hx, hy, rx, ry, hu => by
    cases hy
    cases hx with
    | tup h1 hs1 =>
      rename_i a1 xs1
      cases ry
      cases (show v = Value.ref a1 from rx)
      cases Option.some.inj e
      obtain ⟨_, _, pl, _⟩ := I.tuple h1
      exact EqAt.tuple_bool _ pl (by omega)
  | .bl p, .lst q, b, e, x, y, v, w, A, hx, hy, rx, ry, hu => by
    cases hx
    cases hy with
    | lst h2 hs2 =>
      rename_i a2 xs2
      cases rx
      cases (show w = Value.ref a2 from ry)
      cases Option.some.inj e
      obtain ⟨_, _, pl, _⟩ := I.list h2
      exact EqAt.bool_list _ pl.isList (by omega)
  | .lst q, .bl p, b, e, x, y, v, w, A, hx, hy, rx, ry, hu => by
    cases hy
    cases hx with
    | lst h1 hs1 =>
      rename_i a1 xs1
      cases ry
      cases (show v = Value.ref a1 from rx)
      cases Option.some.inj e
      obtain ⟨_, _, pl, _⟩ := I.list h1
      exact EqAt.list_bool _ pl.isList (by omega)
  | .int p, .tup q, b, e, x, y, v, w, A, hx, hy, rx, ry, hu => by
    cases hx
    cases hy with
    | tup h2 hs2 =>
      rename_i a2 xs2
      obtain ⟨_, rfl⟩ := rx
      cases (show w = Value.ref a2 from ry)
      cases Option.some.inj e
      obtain ⟨_, _, pl, _⟩ := I.tuple h2
      exact EqAt.int_tuple _ _ pl (by omega)
  | .tup q, .int p, b, e, x, y, v, w, A, hx, hy, rx, ry, hu => by
    cases hy
    cases hx with
    | tup h1 hs1 =>
      rename_i a1 xs1
      obtain ⟨_, rfl⟩ := ry
      cases (show v = Value.ref a1 from rx)
      cases Option.some.inj e
      obtain ⟨_, _, pl, _⟩ := I.tuple h1
      exact EqAt.tuple_int _ _ pl (by omega)
  | .int p, .lst q, b, e, x, y, v, w, A, hx, hy, rx, ry, hu => by
    cases hx
    cases hy with
    | lst h2 hs2 =>
      rename_i a2 xs2
      obtain ⟨_, rfl⟩ := rx
      cases (show w = Value.ref a2 from ry)
      cases Option.some.inj e
      obtain ⟨_, _, pl, _⟩ := I.list h2
      exact EqAt.int_list _ _ pl.isList (by omega)
  | .lst q, .int p, b, e, x, y, v, w, A, hx, hy, rx, ry, hu => by
    cases hy
    cases hx with
    | lst h1 hs1 =>
      rename_i a1 xs1
      obtain ⟨_, rfl⟩ := ry
      cases (show v = Value.ref a1 from rx)
      cases Option.some.inj e
      obtain ⟨_, _, pl, _⟩ := I.list h1
      exact EqAt.list_int _ _ pl.isList (by omega)
  | .str p, .tup q, b, e, x, y, v, w, A, hx, hy, rx, ry, hu => by
    cases hx
    cases hy with
    | tup h2 hs2 =>
      rename_i a2 xs2
      obtain ⟨_, rfl⟩ := rx
      cases (show w = Value.ref a2 from ry)
      cases Option.some.inj e
      obtain ⟨_, _, pl, _⟩ := I.tuple h2
      exact EqAt.str_tuple _ _ pl (by omega)
  | .tup q, .str p, b, e, x, y, v, w, A, hx, hy, rx, ry, hu => by
    cases hy
    cases hx with
    | tup h1 hs1 =>
      rename_i a1 xs1
      obtain ⟨_, rfl⟩ := ry
      cases (show v = Value.ref a1 from rx)
      cases Option.some.inj e
      obtain ⟨_, _, pl, _⟩ := I.tuple h1
      exact EqAt.tuple_str _ _ pl (by omega)
  | .str p, .lst q, b, e, x, y, v, w, A, hx, hy, rx, ry, hu => by
    cases hx
    cases hy with
    | lst h2 hs2 =>
      rename_i a2 xs2
      obtain ⟨_, rfl⟩ := rx
      cases (show w = Value.ref a2 from ry)
      cases Option.some.inj e
      obtain ⟨_, _, pl, _⟩ := I.list h2
      exact EqAt.str_list _ _ pl.isList (by omega)
  | .lst q, .str p, b, e, x, y, v, w, A, hx, hy, rx, ry, hu => by
    cases hy
    cases hx with
    | lst h1 hs1 =>
      rename_i a1 xs1
      obtain ⟨_, rfl⟩ := ry
      cases (show v = Value.ref a1 from rx)
      cases Option.some.inj e
      obtain ⟨_, _, pl, _⟩ := I.list h1
      exact EqAt.list_str _ _ pl.isList (by omega)
  | .str p, .dct, b, e, x, y, v, w, A, hx, hy, rx, ry, hu => by
    cases hx
    cases hy with
    | dct h2 =>
      rename_i a2 xs2
      obtain ⟨_, rfl⟩ := rx
      cases (show w = Value.ref a2 from ry)
      cases Option.some.inj e
      exact EqAt.str_dict _ _ (I.isDct h2) (by omega)
  | .dct, .str p, b, e, x, y, v, w, A, hx, hy, rx, ry, hu => by
    cases hy
    cases hx with
    | dct h1 =>
      rename_i a1 xs1
      obtain ⟨_, rfl⟩ := ry
      cases (show v = Value.ref a1 from rx)
      cases Option.some.inj e
      exact EqAt.dict_str _ _ (I.isDct h1) (by omega)
  | .tup ts, .dct, b, e, x, y, v, w, A, hx, hy, rx, ry, hu => by
    cases hy with
    | dct h2 =>
      rename_i a2 xs2
      cases hx with
      | tup h1 hs1 =>
        rename_i a1 xs1
        cases (show v = Value.ref a1 from rx)
        cases (show w = Value.ref a2 from ry)
        cases Option.some.inj e
        obtain ⟨_, _, pl, _⟩ := I.tuple h1
        exact EqAt.tuple_dict pl (I.isDct h2) (by omega)
  | .tup ts, .lst us, b, e, x, y, v, w, A, hx, hy, rx, ry, hu => by
    cases hy with
    | lst h2 hs2 =>
      rename_i a2 xs2
      cases hx with
      | tup h1 hs1 =>
        rename_i a1 xs1
        cases (show v = Value.ref a1 from rx)
        cases (show w = Value.ref a2 from ry)
        cases Option.some.inj e
        obtain ⟨_, _, p1, _⟩ := I.tuple h1
        obtain ⟨_, _, p2, _⟩ := I.list h2
        exact EqAt.tuple_list p1 p2.isList (by omega)
  | .lst ts, .tup us, b, e, x, y, v, w, A, hx, hy, rx, ry, hu => by
    cases hy with
    | tup h2 hs2 =>
      rename_i a2 xs2
      cases hx with
      | lst h1 hs1 =>
        rename_i a1 xs1
        cases (show v = Value.ref a1 from rx)
        cases (show w = Value.ref a2 from ry)
        cases Option.some.inj e
        obtain ⟨_, _, p1, _⟩ := I.list h1
        obtain ⟨_, _, p2, _⟩ := I.tuple h2
        exact EqAt.list_tuple p1.isList p2 (by omega)
  | .lst ts, .lst us, b, e, x, y, v, w, A, hx, hy, rx, ry, hu => by
    cases hx with
    | lst h1 hs1 =>
      cases hy with
      | lst h2 hs2 =>
        rename_i a1 xs1 a2 xs2
        cases (show v = Value.ref a1 from rx)
        cases (show w = Value.ref a2 from ry)
        by_cases ne : a1 = a2
        · subst ne
          cases I.list_inj h1 h2
          cases Ats.inj I hs1 hs2
          have : b = true := Tr.eq_self (.lst ts) b e
          rw [this]
          exact EqAt.same _
        · refine EqAt.of_refs ne ?_
          obtain ⟨vs, r1, p1, _⟩ := I.list h1
          obtain ⟨ws, r2, p2, _⟩ := I.list h2
          have l1 := r1.length
          have l2 := r2.length
          have k1 := hs1.len
          have k2 := hs2.len
          by_cases hl : ts.length = us.length
          · have e' : Tr.eqs ts us = some b := by
              have e := e
              simp only [Tr.eq, if_pos hl] at e
              exact e
            have hu' : A.in1.units + Tr.deps ts < cLine := by
              have : A.units + (Tr.deps ts + 1) < cLine := hu
              show A.units + 1 + Tr.deps ts < cLine
              omega
            obtain ⟨f, hf, eb⟩ := eqAts_T I ts us b e' (A := A.in1) hs1 hs2 r1 r2 hu'
            have hl' : vs.length = ws.length := by omega
            have hh := SeqAt.RcAt.lists (s := s) (A := A) (e := f) p1.isList p2.isList (by simpa using hl') (by omega) (fun j k1 k2 => by
              have := hf j (by simpa using k1) (by simpa using k2)
              simpa using this)
            rw [List.size_toArray] at hh
            rw [hl', Nat.min_self] at eb
            simp only [beq_self_eq_true, Bool.and_true] at eb
            rw [hl', ← eb] at hh
            exact hh
          · have e : false = b := by
              simp only [Tr.eq, if_neg hl] at e
              exact Option.some.inj e
            rw [← e]
            refine SeqAt.RcAt.lists_lengths p1.isList p2.isList ?_ (by omega)
            simp only [List.size_toArray, bne_iff_ne, ne_eq]
            omega
  | .non, .dct, b, e, x, y, v, w, A, hx, hy, rx, ry, hu => by
    simp [Tr.eq] at e
  | .bl _, .dct, b, e, x, y, v, w, A, hx, hy, rx, ry, hu => by
    simp [Tr.eq] at e
  | .int _, .dct, b, e, x, y, v, w, A, hx, hy, rx, ry, hu => by
    simp [Tr.eq] at e
  | .lst _, .dct, b, e, x, y, v, w, A, hx, hy, rx, ry, hu => by
    simp [Tr.eq] at e
  | .dct, .non, b, e, x, y, v, w, A, hx, hy, rx, ry, hu => by
    simp [Tr.eq] at e
  | .dct, .bl _, b, e, x, y, v, w, A, hx, hy, rx, ry, hu => by
    simp [Tr.eq] at e
  | .dct, .int _, b, e, x, y, v, w, A, hx, hy, rx, ry, hu => by
    simp [Tr.eq] at e
  | .dct, .tup _, b, e, x, y, v, w, A, hx, hy, rx, ry, hu => by
    simp [Tr.eq] at e
  | .dct, .lst _, b, e, x, y, v, w, A, hx, hy, rx, ry, hu => by
    simp [Tr.eq] at e
  | .dct, .dct, b, e, x, y, v, w, A, hx, hy, rx, ry, hu => by
    simp [Tr.eq] at e
theorem eqAts_T (I : Inv X pins σ H s) : ∀ (ts us : List Tr) (b : Bool), Tr.eqs ts us = some b → ∀ {xs ys : List V} {vs ws : List Value} {A : Around}, Ats X.K H xs ts → Ats X.K H ys us → Vals xs vs → Vals ys ws → A.units + Tr.deps ts < cLine →
    ∃ f : Nat → Bool, (∀ j (h1 : j < vs.length) (h2 : j < ws.length), EqAt A s vs[j] ws[j] (f j)) ∧ b = ((List.range (min vs.length ws.length)).all f && vs.length == ws.length)
  | [], [], b, e, xs, ys, vs, ws, A, hx, hy, rx, ry, hu => by
    cases hx; cases hy; cases rx; cases ry
    cases Option.some.inj (show some true = some b from by simpa [Tr.eqs] using e)
    exact ⟨fun _ => true, fun j h1 => absurd h1 (Nat.not_lt_zero j), rfl⟩
  | [], u :: us, b, e, xs, ys, vs, ws, A, hx, hy, rx, ry, hu => by
    cases hx; cases rx; cases hy; cases ry
    cases Option.some.inj (show some false = some b from by simpa [Tr.eqs] using e)
    exact ⟨fun _ => true, fun j h1 => absurd h1 (Nat.not_lt_zero j), by simp⟩
  | t :: ts, [], b, e, xs, ys, vs, ws, A, hx, hy, rx, ry, hu => by
    cases hx; cases rx; cases hy; cases ry
    cases Option.some.inj (show some false = some b from by simpa [Tr.eqs] using e)
    exact ⟨fun _ => true, fun j _ h2 => absurd h2 (Nat.not_lt_zero j), by simp⟩
  | t :: ts, u :: us, b, e, xs, ys, vs, ws, A, hx, hy, rx, ry, hu => by
    cases hx with
    | cons hx hxs =>
      cases hy with
      | cons hy hys =>
        cases rx with
        | cons rx rxs =>
          cases ry with
          | cons ry rys =>
            simp only [Tr.eqs] at e
            cases e1 : Tr.eq t u with
            | none => rw [e1] at e; simp at e
            | some c =>
              rw [e1] at e
              cases e2 : Tr.eqs ts us with
              | none => rw [e2] at e; simp at e
              | some d =>
                rw [e2] at e
                have e : (c && d) = b := Option.some.inj e
                have hd : A.units + max t.dep (Tr.deps ts) < cLine := hu
                have q1 := eqAt_T I t u c e1 (A := A) hx hy rx ry (by omega)
                obtain ⟨f, hf, eb⟩ := eqAts_T I ts us d e2 (A := A) hxs hys rxs rys (by omega)
                refine ⟨fun j => match j with | 0 => c | j + 1 => f j, fun j h1 h2 => ?_, ?_⟩
                · cases j with
                  | zero => exact q1
                  | succ j => exact hf j (by simpa using h1) (by simpa using h2)
                · rw [← e, eb]
                  simp only [List.length_cons]
                  rw [Nat.add_min_add_right, List.range_succ_eq_map, List.all_cons, List.all_map]
                  simp [Function.comp_def, Bool.and_assoc]
end
end
end L2

set_option maxRecDepth 100000
set_option maxHeartbeats 4000000
namespace L2
open PySem PySem.Spec PyProof.Rows SeqAt
namespace Tr
/-- what in tells -/
def anyEq : List Tr → Tr → Option Bool
  | [], _ => some false
  | t :: ts, u => match eq t u, anyEq ts u with
    | some b, some c => some (b || c)
    | _, _ => none
end Tr
theorem relV_inj {x y : V} {u : Value} (h : RelV x u) (k : RelV y u) : x = y := h.inj k
section
variable {X : Cx} {pins : List (Addr × Obj)} {σ : St} {H : Hp} {s : Shared}
theorem rcAt_T (I : Inv X pins σ H s) : ∀ (t u : Tr) (b : Bool), Tr.eq t u = some b → ∀ {x y : V} {v w : Value} {A : Around}, At X.K H x t → At X.K H y u → RelV x v → RelV y w → A.units + t.dep < cLine → RcAt A s v w b
  | .non, .non, b, e, x, y, v, w, A, hx, hy, rx, ry, hu => by
    cases hx; cases hy; cases rx; cases ry
    cases Option.some.inj e
    exact RcAt.none_none
  | .tup ts, .tup us, b, e, x, y, v, w, A, hx, hy, rx, ry, hu => by
    cases hx with
    | tup h1 hs1 =>
      cases hy with
      | tup h2 hs2 =>
        rename_i a1 xs1 a2 xs2
        cases (show v = Value.ref a1 from rx)
        cases (show w = Value.ref a2 from ry)
        · skip
          obtain ⟨vs, r1, ⟨o1, g1, c1, n1, d1⟩, _⟩ := I.tuple h1
          obtain ⟨ws, r2, ⟨o2, g2, c2, n2, d2⟩, _⟩ := I.tuple h2
          have e' : Tr.eqs ts us = some b := by simpa [Tr.eq] using e
          have hu' : A.in1.units + Tr.deps ts < cLine := by
            have : A.units + (Tr.deps ts + 1) < cLine := hu
            show A.units + 1 + Tr.deps ts < cLine
            omega
          obtain ⟨f, hf, eb⟩ := eqAts_T I ts us b e' (A := A.in1) hs1 hs2 r1 r2 hu'
          have hh := SeqAt.RcAt.tuples (s := s) (A := A) (e := f) ⟨o1, g1, c1, n1, d1⟩ ⟨o2, g2, c2, n2, d2⟩ (by omega) (fun j k1 k2 => by
            have := hf j (by simpa using k1) (by simpa using k2)
            simpa using this)
          rw [List.size_toArray, List.size_toArray, ← eb] at hh
          exact hh
  | .non, .bl q, b, e, x, y, v, w, A, hx, hy, rx, ry, hu => by
    cases hx; cases hy
    cases rx
    cases ry
    cases Option.some.inj e
    exact RcAt.none_bool _
  | .non, .int q, b, e, x, y, v, w, A, hx, hy, rx, ry, hu => by
    cases hx; cases hy
    cases rx
    obtain ⟨_, rfl⟩ := ry
    cases Option.some.inj e
    exact RcAt.none_int _ _
  | .non, .str q, b, e, x, y, v, w, A, hx, hy, rx, ry, hu => by
    cases hx; cases hy
    cases rx
    obtain ⟨_, rfl⟩ := ry
    cases Option.some.inj e
    exact RcAt.none_str _ _
  | .bl p, .non, b, e, x, y, v, w, A, hx, hy, rx, ry, hu => by
    cases hx; cases hy
    cases rx
    cases ry
    cases Option.some.inj e
    exact RcAt.bool_none _
  | .bl p, .bl q, b, e, x, y, v, w, A, hx, hy, rx, ry, hu => by
    cases hx; cases hy
    cases rx
    cases ry
    cases Option.some.inj e
    exact RcAt.bool_bool _ _
  | .bl p, .int q, b, e, x, y, v, w, A, hx, hy, rx, ry, hu => by
    cases hx; cases hy
    cases rx
    obtain ⟨_, rfl⟩ := ry
    cases Option.some.inj e
    exact RcAt.bool_int _ _ _
  | .bl p, .str q, b, e, x, y, v, w, A, hx, hy, rx, ry, hu => by
    cases hx; cases hy
    cases rx
    obtain ⟨_, rfl⟩ := ry
    cases Option.some.inj e
    exact RcAt.bool_str _ _ _
  | .int p, .non, b, e, x, y, v, w, A, hx, hy, rx, ry, hu => by
    cases hx; cases hy
    obtain ⟨_, rfl⟩ := rx
    cases ry
    cases Option.some.inj e
    exact RcAt.int_none _ _
  | .int p, .bl q, b, e, x, y, v, w, A, hx, hy, rx, ry, hu => by
    cases hx; cases hy
    obtain ⟨_, rfl⟩ := rx
    cases ry
    cases Option.some.inj e
    exact RcAt.int_bool _ _ _
  | .int p, .int q, b, e, x, y, v, w, A, hx, hy, rx, ry, hu => by
    cases hx; cases hy
    obtain ⟨_, rfl⟩ := rx
    obtain ⟨_, rfl⟩ := ry
    cases Option.some.inj e
    exact RcAt.int_int _ _ _ _
  | .int p, .str q, b, e, x, y, v, w, A, hx, hy, rx, ry, hu => by
    cases hx; cases hy
    obtain ⟨_, rfl⟩ := rx
    obtain ⟨_, rfl⟩ := ry
    cases Option.some.inj e
    exact RcAt.int_str _ _ _ _
  | .str p, .non, b, e, x, y, v, w, A, hx, hy, rx, ry, hu => by
    cases hx; cases hy
    obtain ⟨_, rfl⟩ := rx
    cases ry
    cases Option.some.inj e
    exact RcAt.str_none _ _
  | .str p, .bl q, b, e, x, y, v, w, A, hx, hy, rx, ry, hu => by
    cases hx; cases hy
    obtain ⟨_, rfl⟩ := rx
    cases ry
    cases Option.some.inj e
    exact RcAt.str_bool _ _ _
  | .str p, .int q, b, e, x, y, v, w, A, hx, hy, rx, ry, hu => by
    cases hx; cases hy
    obtain ⟨_, rfl⟩ := rx
    obtain ⟨_, rfl⟩ := ry
    cases Option.some.inj e
    exact RcAt.str_int _ _ _ _
  | .str p, .str q, b, e, x, y, v, w, A, hx, hy, rx, ry, hu => by
    cases hx; cases hy
    obtain ⟨_, rfl⟩ := rx
    obtain ⟨_, rfl⟩ := ry
    cases Option.some.inj e
    exact RcAt.str_str _ _ _ _
  | .non, .tup q, b, e, x, y, v, w, A, hx, hy, rx, ry, hu => by
    cases hx
    cases hy with
    | tup h2 hs2 =>
      rename_i a2 xs2
      cases rx
      cases (show w = Value.ref a2 from ry)
      cases Option.some.inj e
      obtain ⟨_, _, pl, _⟩ := I.tuple h2
      exact RcAt.none_tuple  pl (by omega)
  | .tup q, .non, b, e, x, y, v, w, A, hx, hy, rx, ry, hu => by
    cases hy
    cases hx with
    | tup h1 hs1 =>
      rename_i a1 xs1
      cases ry
      cases (show v = Value.ref a1 from rx)
      cases Option.some.inj e
      obtain ⟨_, _, pl, _⟩ := I.tuple h1
      exact RcAt.tuple_none  pl (by omega)
  | .non, .lst q, b, e, x, y, v, w, A, hx, hy, rx, ry, hu => by
    cases hx
    cases hy with
    | lst h2 hs2 =>
      rename_i a2 xs2
      cases rx
      cases (show w = Value.ref a2 from ry)
      cases Option.some.inj e
      obtain ⟨_, _, pl, _⟩ := I.list h2
      exact RcAt.none_list  pl.isList (by omega)
  | .lst q, .non, b, e, x, y, v, w, A, hx, hy, rx, ry, hu => by
    cases hy
    cases hx with
    | lst h1 hs1 =>
      rename_i a1 xs1
      cases ry
      cases (show v = Value.ref a1 from rx)
      cases Option.some.inj e
      obtain ⟨_, _, pl, _⟩ := I.list h1
      exact RcAt.list_none  pl.isList (by omega)
  | .bl p, .tup q, b, e, x, y, v, w, A, hx, hy, rx, ry, hu => by
    cases hx
    cases hy with
    | tup h2 hs2 =>
      rename_i a2 xs2
      cases rx
      cases (show w = Value.ref a2 from ry)
      cases Option.some.inj e
      obtain ⟨_, _, pl, _⟩ := I.tuple h2
      exact RcAt.bool_tuple _ pl (by omega)
  | .tup q, .bl p, b, e, x, y, v, w, A, hx, hy, rx, ry, hu => by
    cases hy
    cases hx with
    | tup h1 hs1 =>
      rename_i a1 xs1
      cases ry
      cases (show v = Value.ref a1 from rx)
      cases Option.some.inj e
      obtain ⟨_, _, pl, _⟩ := I.tuple h1
      exact RcAt.tuple_bool _ pl (by omega)
  | .bl p, .lst q, b, e, x, y, v, w, A, hx, hy, rx, ry, hu => by
    cases hx
    cases hy with
    | lst h2 hs2 =>
      rename_i a2 xs2
      cases rx
      cases (show w = Value.ref a2 from ry)
      cases Option.some.inj e
      obtain ⟨_, _, pl, _⟩ := I.list h2
      exact RcAt.bool_list _ pl.isList (by omega)
  | .lst q, .bl p, b, e, x, y, v, w, A, hx, hy, rx, ry, hu => by
    cases hy
    cases hx with
    | lst h1 hs1 =>
      rename_i a1 xs1
      cases ry
      cases (show v = Value.ref a1 from rx)
      cases Option.some.inj e
      obtain ⟨_, _, pl, _⟩ := I.list h1
      exact RcAt.list_bool _ pl.isList (by omega)
  | .int p, .tup q, b, e, x, y, v, w, A, hx, hy, rx, ry, hu => by
    cases hx
    cases hy with
    | tup h2 hs2 =>
      rename_i a2 xs2
      obtain ⟨_, rfl⟩ := rx
      cases (show w = Value.ref a2 from ry)
      cases Option.some.inj e
      obtain ⟨_, _, pl, _⟩ := I.tuple h2
      exact RcAt.int_tuple _ _ pl (by omega)
  | .tup q, .int p, b, e, x, y, v, w, A, hx, hy, rx, ry, hu => by
    cases hy
    cases hx with
    | tup h1 hs1 =>
      rename_i a1 xs1
      obtain ⟨_, rfl⟩ := ry
      cases (show v = Value.ref a1 from rx)
      cases Option.some.inj e
      obtain ⟨_, _, pl, _⟩ := I.tuple h1
      exact RcAt.tuple_int _ _ pl (by omega)
  | .int p, .lst q, b, e, x, y, v, w, A, hx, hy, rx, ry, hu => by
    cases hx
    cases hy with
    | lst h2 hs2 =>
      rename_i a2 xs2
      obtain ⟨_, rfl⟩ := rx
      cases (show w = Value.ref a2 from ry)
      cases Option.some.inj e
      obtain ⟨_, _, pl, _⟩ := I.list h2
      exact RcAt.int_list _ _ pl.isList (by omega)
  | .lst q, .int p, b, e, x, y, v, w, A, hx, hy, rx, ry, hu => by
    cases hy
    cases hx with
    | lst h1 hs1 =>
      rename_i a1 xs1
      obtain ⟨_, rfl⟩ := ry
      cases (show v = Value.ref a1 from rx)
      cases Option.some.inj e
      obtain ⟨_, _, pl, _⟩ := I.list h1
      exact RcAt.list_int _ _ pl.isList (by omega)
  | .str p, .tup q, b, e, x, y, v, w, A, hx, hy, rx, ry, hu => by
    cases hx
    cases hy with
    | tup h2 hs2 =>
      rename_i a2 xs2
      obtain ⟨_, rfl⟩ := rx
      cases (show w = Value.ref a2 from ry)
      cases Option.some.inj e
      obtain ⟨_, _, pl, _⟩ := I.tuple h2
      exact RcAt.str_tuple _ _ pl (by omega)
  | .tup q, .str p, b, e, x, y, v, w, A, hx, hy, rx, ry, hu => by
    cases hy
    cases hx with
    | tup h1 hs1 =>
      rename_i a1 xs1
      obtain ⟨_, rfl⟩ := ry
      cases (show v = Value.ref a1 from rx)
      cases Option.some.inj e
      obtain ⟨_, _, pl, _⟩ := I.tuple h1
      exact RcAt.tuple_str _ _ pl (by omega)
  | .str p, .lst q, b, e, x, y, v, w, A, hx, hy, rx, ry, hu => by
    cases hx
    cases hy with
    | lst h2 hs2 =>
      rename_i a2 xs2
      obtain ⟨_, rfl⟩ := rx
      cases (show w = Value.ref a2 from ry)
      cases Option.some.inj e
      obtain ⟨_, _, pl, _⟩ := I.list h2
      exact RcAt.str_list _ _ pl.isList (by omega)
  | .lst q, .str p, b, e, x, y, v, w, A, hx, hy, rx, ry, hu => by
    cases hy
    cases hx with
    | lst h1 hs1 =>
      rename_i a1 xs1
      obtain ⟨_, rfl⟩ := ry
      cases (show v = Value.ref a1 from rx)
      cases Option.some.inj e
      obtain ⟨_, _, pl, _⟩ := I.list h1
      exact RcAt.list_str _ _ pl.isList (by omega)
  | .str p, .dct, b, e, x, y, v, w, A, hx, hy, rx, ry, hu => by
    cases hx
    cases hy with
    | dct h2 =>
      rename_i a2 xs2
      obtain ⟨_, rfl⟩ := rx
      cases (show w = Value.ref a2 from ry)
      cases Option.some.inj e
      exact RcAt.str_dict _ _ (I.isDct h2) (by omega)
  | .dct, .str p, b, e, x, y, v, w, A, hx, hy, rx, ry, hu => by
    cases hy
    cases hx with
    | dct h1 =>
      rename_i a1 xs1
      obtain ⟨_, rfl⟩ := ry
      cases (show v = Value.ref a1 from rx)
      cases Option.some.inj e
      exact RcAt.dict_str _ _ (I.isDct h1) (by omega)
  | .tup ts, .dct, b, e, x, y, v, w, A, hx, hy, rx, ry, hu => by
    cases hy with
    | dct h2 =>
      rename_i a2 xs2
      cases hx with
      | tup h1 hs1 =>
        rename_i a1 xs1
        cases (show v = Value.ref a1 from rx)
        cases (show w = Value.ref a2 from ry)
        cases Option.some.inj e
        obtain ⟨_, _, pl, _⟩ := I.tuple h1
        exact RcAt.tuple_dict pl (I.isDct h2) (by omega)
  | .tup ts, .lst us, b, e, x, y, v, w, A, hx, hy, rx, ry, hu => by
    cases hy with
    | lst h2 hs2 =>
      rename_i a2 xs2
      cases hx with
      | tup h1 hs1 =>
        rename_i a1 xs1
        cases (show v = Value.ref a1 from rx)
        cases (show w = Value.ref a2 from ry)
        cases Option.some.inj e
        obtain ⟨_, _, p1, _⟩ := I.tuple h1
        obtain ⟨_, _, p2, _⟩ := I.list h2
        exact RcAt.tuple_list p1 p2.isList (by omega)
  | .lst ts, .tup us, b, e, x, y, v, w, A, hx, hy, rx, ry, hu => by
    cases hy with
    | tup h2 hs2 =>
      rename_i a2 xs2
      cases hx with
      | lst h1 hs1 =>
        rename_i a1 xs1
        cases (show v = Value.ref a1 from rx)
        cases (show w = Value.ref a2 from ry)
        cases Option.some.inj e
        obtain ⟨_, _, p1, _⟩ := I.list h1
        obtain ⟨_, _, p2, _⟩ := I.tuple h2
        exact RcAt.list_tuple p1.isList p2 (by omega)
  | .lst ts, .lst us, b, e, x, y, v, w, A, hx, hy, rx, ry, hu => by
    cases hx with
    | lst h1 hs1 =>
      cases hy with
      | lst h2 hs2 =>
        rename_i a1 xs1 a2 xs2
        cases (show v = Value.ref a1 from rx)
        cases (show w = Value.ref a2 from ry)
        · skip
          obtain ⟨vs, r1, p1, _⟩ := I.list h1
          obtain ⟨ws, r2, p2, _⟩ := I.list h2
          have l1 := r1.length
          have l2 := r2.length
          have k1 := hs1.len
          have k2 := hs2.len
          by_cases hl : ts.length = us.length
          · have e' : Tr.eqs ts us = some b := by
              have e := e
              simp only [Tr.eq, if_pos hl] at e
              exact e
            have hu' : A.in1.units + Tr.deps ts < cLine := by
              have : A.units + (Tr.deps ts + 1) < cLine := hu
              show A.units + 1 + Tr.deps ts < cLine
              omega
            obtain ⟨f, hf, eb⟩ := eqAts_T I ts us b e' (A := A.in1) hs1 hs2 r1 r2 hu'
            have hl' : vs.length = ws.length := by omega
            have hh := SeqAt.RcAt.lists (s := s) (A := A) (e := f) p1.isList p2.isList (by simpa using hl') (by omega) (fun j k1 k2 => by
              have := hf j (by simpa using k1) (by simpa using k2)
              simpa using this)
            rw [List.size_toArray] at hh
            rw [hl', Nat.min_self] at eb
            simp only [beq_self_eq_true, Bool.and_true] at eb
            rw [hl', ← eb] at hh
            exact hh
          · have e : false = b := by
              simp only [Tr.eq, if_neg hl] at e
              exact Option.some.inj e
            rw [← e]
            refine SeqAt.RcAt.lists_lengths p1.isList p2.isList ?_ (by omega)
            simp only [List.size_toArray, bne_iff_ne, ne_eq]
            omega
  | .non, .dct, b, e, x, y, v, w, A, hx, hy, rx, ry, hu => by
    simp [Tr.eq] at e
  | .bl _, .dct, b, e, x, y, v, w, A, hx, hy, rx, ry, hu => by
    simp [Tr.eq] at e
  | .int _, .dct, b, e, x, y, v, w, A, hx, hy, rx, ry, hu => by
    simp [Tr.eq] at e
  | .lst _, .dct, b, e, x, y, v, w, A, hx, hy, rx, ry, hu => by
    simp [Tr.eq] at e
  | .dct, .non, b, e, x, y, v, w, A, hx, hy, rx, ry, hu => by
    simp [Tr.eq] at e
  | .dct, .bl _, b, e, x, y, v, w, A, hx, hy, rx, ry, hu => by
    simp [Tr.eq] at e
  | .dct, .int _, b, e, x, y, v, w, A, hx, hy, rx, ry, hu => by
    simp [Tr.eq] at e
  | .dct, .tup _, b, e, x, y, v, w, A, hx, hy, rx, ry, hu => by
    simp [Tr.eq] at e
  | .dct, .lst _, b, e, x, y, v, w, A, hx, hy, rx, ry, hu => by
    simp [Tr.eq] at e
  | .dct, .dct, b, e, x, y, v, w, A, hx, hy, rx, ry, hu => by
    simp [Tr.eq] at e

theorem in_T (I : Inv X pins σ H s) {u : Tr} {x : V} {w : Value} {A : Around} (hx : At X.K H x u) (rx : RelV x w) : ∀ {ts : List Tr} {b : Bool} {xs : List V} {vs : List Value}, Tr.anyEq ts u = some b → Ats X.K H xs ts → Vals xs vs → A.units + Tr.deps ts < cLine →
    ∃ e : Value → Bool, (∀ v ∈ vs, EqAt A s v w (e v)) ∧ vs.any e = b ∧ ∀ v, v ∈ vs → ∀ (y : V) (t : Tr), RelV y v → At X.K H y t → Tr.eq t u = some (e v)
  | [], b, xs, vs, h, hs, r, _ => by
    cases hs; cases r
    cases Option.some.inj (show some false = some b from by simpa [Tr.anyEq] using h)
    exact ⟨fun _ => false, (fun v hv => by cases hv), rfl, (fun v hv => by cases hv)⟩
  | t :: ts, b, xs, vs, h, hs, r, hu => by
    cases hs with
    | cons ht hts =>
      cases r with
      | cons rt rts =>
        rename_i x0 xs0 v0 vs0
        simp only [Tr.anyEq] at h
        cases e1 : Tr.eq t u with
        | none => rw [e1] at h; simp at h
        | some c =>
          rw [e1] at h
          cases e2 : Tr.anyEq ts u with
          | none => rw [e2] at h; simp at h
          | some d =>
            rw [e2] at h
            have h : (c || d) = b := Option.some.inj h
            have hd : A.units + max t.dep (Tr.deps ts) < cLine := hu
            have q1 := eqAt_T I t u c e1 (A := A) ht hx rt rx (by omega)
            obtain ⟨e, he, ea, ei⟩ := in_T I hx rx (A := A) e2 hts rts (by omega)
            classical
            have inn : v0 ∈ vs0 → e v0 = c := fun hm => by
              have := ei v0 hm x0 t rt ht
              rw [e1] at this
              exact (Option.some.inj this).symm
            refine ⟨fun v => if v = v0 then c else e v, fun v hv => ?_, ?_, fun v hv y t' ry hy => ?_⟩
            · show EqAt A s v w (if v = v0 then c else e v)
              by_cases q : v = v0
              · rw [if_pos q, q]; exact q1
              · rw [if_neg q]
                rcases List.mem_cons.mp hv with z | z
                · exact absurd z q
                · exact he v z
            · rw [List.any_cons, if_pos rfl, ← h]
              have : vs0.any (fun v => if v = v0 then c else e v) = vs0.any e := by
                apply Bool.eq_iff_iff.mpr
                simp only [List.any_eq_true]
                constructor
                · rintro ⟨v, hv, q⟩
                  refine ⟨v, hv, ?_⟩
                  by_cases z : v = v0
                  · rw [if_pos z] at q
                    rw [z, inn (z ▸ hv)]
                    exact q
                  · rw [if_neg z] at q
                    exact q
                · rintro ⟨v, hv, q⟩
                  refine ⟨v, hv, ?_⟩
                  by_cases z : v = v0
                  · rw [if_pos z, ← inn (z ▸ hv), ← z]
                    exact q
                  · rw [if_neg z]
                    exact q
              rw [this, ea]
            · show Tr.eq t' u = some (if v = v0 then c else e v)
              by_cases q : v = v0
              · rw [if_pos q]
                rw [q] at ry
                cases relV_inj ry rt
                rw [At.inj I hy ht]
                exact e1
              · rw [if_neg q]
                rcases List.mem_cons.mp hv with z | z
                · exact absurd z q
                · exact ei v z y t' ry hy
end
section
variable {X : Cx}
def rEqT (K : PySem.W.Frag) : R2 := fun x y H Q => ∃ t u b, At K H x t ∧ At K H y u ∧ Tr.eq t u = some b ∧ t.dep ≤ 60 ∧ Q (.bl b) H
theorem op_eqT (hu : X.A.units + 64 < cLine) : OpR X (compareOp .Eq) (rEqT X.K) := by
  intro pins s σ H x y v u Q I rx ry h
  obtain ⟨t, t', b, hx, hy, e, d, q⟩ := h
  exact rcAt_T I t t' b e hx hy rx ry (by omega) X.prog X.w _ _ ⟨.bl b, H, I, rfl, q⟩
def rInT (K : PySem.W.Frag) : R2 := fun x y H Q => ∃ u ts b, At K H x u ∧ At K H y (.lst ts) ∧ Tr.anyEq ts u = some b ∧ Tr.deps ts ≤ 60 ∧ Q (.bl b) H
def rNotInT (K : PySem.W.Frag) : R2 := fun x y H Q => ∃ u ts b, At K H x u ∧ At K H y (.lst ts) ∧ Tr.anyEq ts u = some b ∧ Tr.deps ts ≤ 60 ∧ Q (.bl (!b)) H
theorem op_inT (hu : X.A.units + 65 < cLine) : OpR X (compareOp .In) (rInT X.K) := by
  intro pins s σ H x y v u Q I rx ry h
  obtain ⟨t, ts, b, hx, hy, e, d, q⟩ := h
  cases hy with
  | lst hl hs =>
    rename_i a xs
    cases (show u = Value.ref a from ry)
    obtain ⟨vs, r, p, _⟩ := I.list hl
    obtain ⟨f, hf, ef, _⟩ := in_T I hx rx (A := X.A.in1) e hs r (by show X.A.units + 1 + _ < cLine; omega)
    refine SeqAt.in_listAt f p.isList (fun y hy => hf y (by simpa using hy)) ?_
    rw [show vs.toArray.any f = b from by rw [← ef]; simp]
    exact ⟨.bl b, H, I, rfl, q⟩
theorem op_notInT (hu : X.A.units + 65 < cLine) : OpR X (compareOp .NotIn) (rNotInT X.K) := by
  intro pins s σ H x y v u Q I rx ry h
  obtain ⟨t, ts, b, hx, hy, e, d, q⟩ := h
  cases hy with
  | lst hl hs =>
    rename_i a xs
    cases (show u = Value.ref a from ry)
    obtain ⟨vs, r, p, _⟩ := I.list hl
    obtain ⟨f, hf, ef, _⟩ := in_T I hx rx (A := X.A.in1) e hs r (by show X.A.units + 1 + _ < cLine; omega)
    refine SeqAt.notIn_listAt f p.isList (fun y hy => hf y (by simpa using hy)) ?_
    rw [show vs.toArray.any f = b from by rw [← ef]; simp]
    exact ⟨.bl (!b), H, I, rfl, q⟩
end
end L2

set_option maxRecDepth 100000
set_option maxHeartbeats 4000000
/-! Of a thing's tree: its type; texts of no great length. -/
namespace L2
open PySem PySem.Spec PyProof.Rows
namespace Tr
mutual
def fine : Tr → Bool
  | .str z => decide (z.length ≤ 1000) && PyData.canLay0 (.str z)
  | .tup ts => decide (ts.length ≤ 1000) && fines ts
  | .lst ts => decide (ts.length ≤ 1000) && fines ts
  | _ => true
def fines : List Tr → Bool
  | [] => true
  | t :: ts => fine t && fines ts
end
theorem fines_all : ∀ {ts : List Tr}, fines ts = true → ∀ t ∈ ts, fine t = true
  | t :: ts, h, u, hu => by
    have h : (fine t && fines ts) = true := h
    rw [Bool.and_eq_true] at h
    rcases List.mem_cons.mp hu with e | e
    · rw [e]; exact h.1
    · exact fines_all h.2 u e
theorem fine_str {z : Str} (h : fine (.str z) = true) : z.length ≤ 1000 ∧ PyData.canLay0 (.str z) = true := by
  have h : (decide (z.length ≤ 1000) && PyData.canLay0 (.str z)) = true := by simpa [fine] using h
  rw [Bool.and_eq_true] at h
  exact ⟨of_decide_eq_true h.1, h.2⟩
theorem fine_tup {ts : List Tr} (h : fine (.tup ts) = true) : ts.length ≤ 1000 ∧ fines ts = true := by
  have h : (decide (ts.length ≤ 1000) && fines ts) = true := by simpa [fine] using h
  rw [Bool.and_eq_true] at h
  exact ⟨of_decide_eq_true h.1, h.2⟩
theorem fine_lst {ts : List Tr} (h : fine (.lst ts) = true) : ts.length ≤ 1000 ∧ fines ts = true := by
  have h : (decide (ts.length ≤ 1000) && fines ts) = true := by simpa [fine] using h
  rw [Bool.and_eq_true] at h
  exact ⟨of_decide_eq_true h.1, h.2⟩
theorem fines_of : ∀ {ts : List Tr}, (∀ t ∈ ts, fine t = true) → fines ts = true
  | [], _ => rfl
  | t :: ts, h => by
    show (fine t && fines ts) = true
    rw [h t (List.mem_cons_self ..), fines_of fun u hu => h u (List.mem_cons_of_mem _ hu)]
    rfl
/-- the texts, if all are -/
def strs? : List Tr → Option (List Str)
  | [] => some []
  | .str z :: l => (strs? l).map (z :: ·)
  | _ :: _ => none
theorem strs_map : ∀ ws : List Str, strs? (ws.map .str) = some ws
  | [] => rfl
  | w :: ws => by
    show (strs? (ws.map .str)).map (w :: ·) = _
    rw [strs_map ws]
    rfl
theorem strs_some : ∀ {ts : List Tr} {ws : List Str}, strs? ts = some ws → ts = ws.map .str
  | [], ws, h => by cases h; rfl
  | .str z :: l, ws, h => by
    have h : (strs? l).map (z :: ·) = some ws := h
    obtain ⟨u, hu, rfl⟩ := Option.map_eq_some_iff.mp h
    rw [strs_some hu]
    rfl
  | .non :: _, _, h => by cases h
  | .bl _ :: _, _, h => by cases h
  | .int _ :: _, _, h => by cases h
  | .dct :: _, _, h => by cases h
  | .tup _ :: _, _, h => by cases h
  | .lst _ :: _, _, h => by cases h
def wordT (t : Tr) (ws : List Str) : Bool := match t with
  | .str z => ws.contains z
  | _ => false
end Tr
section
variable {K : PySem.W.Frag} {H : Hp} {a : Addr} {xs : List V} {x : V} {t : Tr} {ts : List Tr}
theorem sqT_ty (h : SqT K H a xs) : TyX K H (.ref a) (.type "tuple") := by
  rcases h with (h | ⟨o, h⟩) | ⟨o, its, n, h1, h2, _⟩
  · exact .base (.tup h)
  · exact .fTuple h
  · exact .kTuple h1 h2
theorem sqL_ty (h : SqL K H a xs) : TyX K H (.ref a) (.type "list") := by
  rcases h with (h | ⟨o, h⟩) | ⟨o, its, n, h1, h2, _⟩
  · exact .base (.lst h)
  · exact .base (.frz h)
  · exact .kList h1 h2
/-- a type that is neither str nor .. -/
def Ty1 (t : Tr) : String := match t with
  | .non => "NoneType"
  | .bl _ => "bool"
  | .int _ => "int"
  | .str _ => "str"
  | .dct => "dict"
  | .tup _ => "tuple"
  | .lst _ => "list"
theorem At.ty (h : At K H x t) : TyX K H x (.type (Ty1 t)) := by
  cases h with
  | non => exact .base .non
  | bl => exact .base (.bl _)
  | int => exact .base (.int _)
  | str => exact .base (.str _)
  | dct h => exact .base (.dK h)
  | tup h _ => exact sqT_ty h
  | lst h _ => exact sqL_ty h
theorem kitS (K : PySem.W.Frag) : ∀ a ∈ ["NoneType", "bool", "int", "dict", "tuple", "list"], PySem.W.kitOne K (.type a) (.type "str") = some false := by
  intro a h
  simp only [List.mem_cons, List.not_mem_nil, or_false] at h
  rcases h with rfl | rfl | rfl | rfl | rfl | rfl <;> exact kit_ty (by decide +kernel)
theorem kitT (K : PySem.W.Frag) : ∀ a ∈ ["NoneType", "bool", "int", "dict", "str", "list"], PySem.W.kitOne K (.type a) (.type "tuple") = some false := by
  intro a h
  simp only [List.mem_cons, List.not_mem_nil, or_false] at h
  rcases h with rfl | rfl | rfl | rfl | rfl | rfl <;> exact kit_ty (by decide +kernel)
theorem noTup {t : Tr} (h : ∀ us, t ≠ .tup us) (K : PySem.W.Frag) : PySem.W.kitOne K (.type (Ty1 t)) (.type "tuple") = some false := by
  refine kitT K _ ?_
  cases t with
  | tup us => exact absurd rfl (h us)
  | _ => simp [Ty1]
theorem noStr {t : Tr} (h : ∀ z, t ≠ .str z) (K : PySem.W.Frag) : PySem.W.kitOne K (.type (Ty1 t)) (.type "str") = some false := by
  refine kitS K _ ?_
  cases t with
  | str us => exact absurd rfl (h us)
  | _ => simp [Ty1]
theorem At.noTx (h : At K H x t) (n : ∀ z, t ≠ .str z) : NoTx K H x := fun _ s => ⟨_, (h.same s).ty, noStr n K⟩
theorem Ats.mem : ∀ {xs : List V} {ts : List Tr}, Ats K H xs ts → ∀ x ∈ xs, ∃ t, t ∈ ts ∧ At K H x t
  | _, _, .nil, _, h => nomatch h
  | _, _, .cons h hs, y, hy => by
    rcases List.mem_cons.mp hy with e | e
    · rw [e]
      exact ⟨_, List.mem_cons_self .., h⟩
    · obtain ⟨t, h1, h2⟩ := hs.mem y e
      exact ⟨t, List.mem_cons_of_mem _ h1, h2⟩
theorem Ats.get : ∀ {xs : List V} {ts : List Tr}, Ats K H xs ts → ∀ {i : Nat} {x : V}, xs[i]? = some x → ∃ t, ts[i]? = some t ∧ At K H x t
  | _, _, .nil, i, _, h => by simp at h
  | _, _, .cons h hs, 0, x, e => by
    simp at e
    subst e
    exact ⟨_, rfl, h⟩
  | _, _, .cons h hs, i + 1, x, e => by
    obtain ⟨t, h1, h2⟩ := hs.get (i := i) (by simpa using e)
    exact ⟨t, by simpa using h1, h2⟩
theorem Ats.app : ∀ {xs : List V} {ts : List Tr} {ys : List V} {us : List Tr}, Ats K H xs ts → Ats K H ys us → Ats K H (xs ++ ys) (ts ++ us)
  | _, _, _, _, .nil, h => h
  | _, _, _, _, .cons h hs, k => .cons h (hs.app k)
theorem Ats.unapp : ∀ {ts : List Tr} {xs : List V} {us : List Tr}, Ats K H xs (ts ++ us) → ∃ ys zs, xs = ys ++ zs ∧ Ats K H ys ts ∧ Ats K H zs us
  | [], xs, us, h => ⟨[], xs, rfl, .nil, h⟩
  | t :: ts, _, us, .cons h hs => by
    obtain ⟨ys, zs, rfl, h1, h2⟩ := Ats.unapp hs
    exact ⟨_ :: ys, zs, rfl, .cons h h1, h2⟩
theorem Ats.strs : ∀ ws : List Str, Ats K H (ws.map V.str) (ws.map Tr.str)
  | [] => .nil
  | w :: ws => .cons .str (Ats.strs ws)
theorem Ats.unstrs : ∀ {ws : List Str} {xs : List V}, Ats K H xs (ws.map Tr.str) → xs = ws.map V.str
  | [], _, .nil => rfl
  | w :: ws, _, .cons h hs => by
    cases h
    rw [hs.unstrs]
    rfl
theorem Ats.told (h : Ats K H xs ts) (f : Tr.fines ts = true) : Told K H xs := fun x hx => by
  obtain ⟨t, ht, at_⟩ := h.mem x hx
  have ft := Tr.fines_all f t ht
  cases t with
  | str z =>
    cases at_
    exact .inl ⟨z, rfl, Tr.fine_str ft⟩
  | non => exact .inr (at_.noTx fun z e => (nomatch e))
  | bl b => exact .inr (at_.noTx fun z e => (nomatch e))
  | int i => exact .inr (at_.noTx fun z e => (nomatch e))
  | dct => exact .inr (at_.noTx fun z e => (nomatch e))
  | tup us => exact .inr (at_.noTx fun z e => (nomatch e))
  | lst us => exact .inr (at_.noTx fun z e => (nomatch e))
theorem Ats.txs : ∀ {xs : List V} {ts : List Tr}, Ats K H xs ts → txs? xs = Tr.strs? ts
  | _, _, .nil => rfl
  | _, _, .cons (t := t) h hs => by
    cases h with
    | str =>
      show (txs? _).map _ = (Tr.strs? _).map _
      rw [hs.txs]
    | _ => rfl
end
end L2

set_option maxRecDepth 100000
set_option maxHeartbeats 4000000
/-! A comprehension over zip of two tuples of one length; a tuple without its first, or its last item; x in a tuple of any items. -/
namespace RZ
open PySem PySem.Spec PyProof.Rows L2
theorem lc_zipT {K : PySem.W.Frag} {a b : Addr} {xs ys : List V} {g : TG} {tt : TT} {te : TE} {vs : List Nat} {σ : L2.St} {H1 : Hp} {D : Addr} {Qd : Hp → Prop} (hl : xs.length = ys.length) (Pv : Nat → Hp → Prop) (h0 : Pv 0 (upd H1 D (.lst [])))
    (hq : ∀ i H, Pv i H → SqT K H a xs ∧ SqT K H b ys)
    (hs : ∀ (i : Nat) (x y : V) (T : Addr) (H : Hp), xs[i]? = some x → ys[i]? = some y → Pv i H → H T = none → g (.ref T) (wipe σ vs) (upd H T (.tup [x, y])) fun σ2 H2 => wipe σ2 vs = wipe σ vs ∧ tt σ2 H2 fun c H3 =>
      if c = true then te σ2 H3 fun z H4 => ∃ acc, H4 D = some (.lst acc) ∧ acc.length < sizeLine ∧ Pv (i + 1) (upd H4 D (.lst (acc ++ [z]))) else Pv (i + 1) H3)
    (hd : ∀ H, Pv xs.length H → Qd H) :
    ∃ W : Nat → Nat → Hp → Prop, (∃ m, W 0 m (upd H1 D (.lst []))) ∧ ∀ i m H, W i m H →
      ((ItzT K a b).stop i H ∧ Qd H) ∨ ((ItzT K a b).go i H ∧ ∃ Nx : Hp → Prop, (∀ H', Nx H' → ∃ m', m' < m ∧ W (i + 1) m' H') ∧ ∀ x H', (ItzT K a b).yld i H x H' → g x (wipe σ vs) H' fun σ2 H2 => wipe σ2 vs = wipe σ vs ∧ tt σ2 H2 fun c H3 =>
        if c = true then te σ2 H3 fun z H4 => ∃ acc, H4 D = some (.lst acc) ∧ acc.length < sizeLine ∧ Nx (upd H4 D (.lst (acc ++ [z]))) else Nx H3) := by
  refine ⟨fun i m H => m + i = xs.length ∧ Pv i H, ⟨xs.length, Nat.add_zero _, h0⟩, fun i m H ⟨e, p⟩ => ?_⟩
  obtain ⟨qx, qy⟩ := hq i H p
  cases m with
  | zero =>
    have e' : i = xs.length := by omega
    subst e'
    exact .inl ⟨⟨xs, ys, qx, qy, .inl (Nat.le_refl _)⟩, hd H p⟩
  | succ m =>
    have l1 : i < xs.length := by omega
    have l2 : i < ys.length := by omega
    refine .inr ⟨⟨xs, ys, xs[i], ys[i], qx, qy, List.getElem?_eq_getElem l1, List.getElem?_eq_getElem l2⟩, Pv (i + 1), fun H' p' => ⟨m, Nat.lt_succ_self m, by omega, p'⟩, fun v H' y => ?_⟩
    obtain ⟨T, x', y', rfl, hT, rfl, f1, f2⟩ := y
    exact hs i x' y' T H (f1 xs qx) (f2 ys qy) p hT
theorem cut1 {x : V} {ys : List V} : cutV (x :: ys) (some 1) none = ys := by
  unfold cutV
  have e : HT.sIx (x :: ys).length 0 (some 1) = 1 := by
    show min 1 (x :: ys).length = 1
    rw [List.length_cons]
    omega
  rw [e]
  show (List.drop 1 (x :: ys)).take ((x :: ys).length - 1) = ys
  simp
theorem not1 {x : V} {ys : List V} {d : Option Int} : ¬ (HT.sIx (x :: ys).length 0 (some 1) = 0 ∧ HT.sIx (x :: ys).length (x :: ys).length d = (x :: ys).length) := fun h => by
  have e : HT.sIx (x :: ys).length 0 (some 1) = 1 := by
    show min 1 (x :: ys).length = 1
    rw [List.length_cons]
    omega
  rw [e] at h
  exact absurd h.1 (by decide)
theorem sxL {xs : List V} {z : V} : HT.sIx (xs ++ [z]).length (xs ++ [z]).length (some (-1)) = xs.length := by
  show ((-1 : Int) + ((xs ++ [z]).length : Int)).toNat = xs.length
  rw [List.length_append, List.length_singleton]
  omega
theorem cutL {xs : List V} {z : V} : cutV (xs ++ [z]) none (some (-1)) = xs := by
  unfold cutV
  rw [sxL]
  show (List.drop 0 (xs ++ [z])).take (xs.length - 0) = xs
  simp
theorem notL {xs : List V} {z : V} : ¬ (HT.sIx (xs ++ [z]).length 0 none = 0 ∧ HT.sIx (xs ++ [z]).length (xs ++ [z]).length (some (-1)) = (xs ++ [z]).length) := fun h => by
  rw [sxL, List.length_append, List.length_singleton] at h
  omega
theorem at0 {x : V} {ys : List V} : atI (x :: ys) 0 = some x := by
  unfold atI ixN
  rw [if_pos (by decide), if_pos (by rw [List.length_cons]; omega)]
  rfl
theorem atL {xs : List V} {z : V} : atI (xs ++ [z]) (-1) = some z := by
  unfold atI ixN
  rw [if_neg (by decide)]
  have e : ((xs ++ [z]).length : Int) = (xs.length : Int) + 1 := by simp
  rw [e, if_pos (by omega)]
  have e2 : ((-1 : Int) + ((xs.length : Int) + 1)).toNat = xs.length := by omega
  show (xs ++ [z])[((-1 : Int) + ((xs.length : Int) + 1)).toNat]? = some z
  rw [e2]
  simp
/-- x in a tuple, items of any depth -/
def rInDT (K : PySem.W.Frag) : R2 := fun x y H Q => ∃ d ds, Dp K H x d ∧ Dp K H y (.tuple ds) ∧ SeqAt.shaped d = true ∧ SeqAt.shaped (.tuple ds) = true ∧ Q (.bl (ds.any fun z => PyData.eqv z d)) H
theorem op_inDT {X : Cx} (hu : X.A.units + 65 < cLine) : OpR X (compareOp .In) (rInDT X.K) := by
  intro pins s σ H x y v u Q I rx ry h
  obtain ⟨d, ds, hd, he, sd, se, q⟩ := h
  obtain ⟨as, r1⟩ := Dp.reads I d x v hd rx
  obtain ⟨bs, r2⟩ := Dp.reads I (.tuple ds) y u he ry
  have lay : PyData.canLayAll0 ds = true := by
    have := SeqAt.canLay_of_shaped se
    unfold PyData.canLay0 at this
    exact this
  exact SeqAt.in_tuple_reads r2 r1 lay (SeqAt.canLay_of_shaped sd) (room_in_shaped sd hu) ⟨.bl _, H, I, rfl, q⟩
/-- d[k] of a written dict with text keys -/
theorem ix_kd {X : Cx} {d : Addr} {es : Array DictEntry} {n : Nat} (D : KDict X.K X.w d es n) :
    IxR X (fun x y H Q => ∃ (z : Str) (u0 : Value) (v0 : V), x = .ref d ∧ y = .str z ∧ PySem.W.nsIn X.K d z = some (some u0) ∧ RelV v0 u0 ∧ Q v0 H) := by
  intro value slice pins s σ H x y v u Q I rx ry h hs
  have g := op_item_kd D pins s σ H x y v u Q I rx ry h
  obtain ⟨z, u0, v0, rfl, _⟩ := h
  cases rx
  exact tail_any (kd_type D I) PySem.F.slot_dict_getitem.lookup g hs
end RZ

set_option maxRecDepth 100000
set_option maxHeartbeats 4000000
namespace K55
open PySem PySem.Spec PyProof.Rows L2 He VH RZ
/-! is a thing of any kind a statement -/
abbrev sIst : Stmt := top 27
abbrev FnIst (K : PySem.W.Frag) (fd : FuncData) : Prop := FnP K "is_statement" sIst (ga K "is_statement") fd
theorem bIst {K : PySem.W.Frag} {fd : FuncData} (F : FnIst K fd) : Binds K fd ["value"] [] := FunD.bindsN F fun _ _ _ _ _ _ us hl => match us, hl with | [_], _ => rfl
abbrev nIst : List Str := ["value", "places", "rest", "word", "words"]
theorem scIst : FnScope nIst ["value"] (defScope sIst) := ⟨rfl, rfl, rfl, by decide +kernel, rfl, by decide +kernel, by decide +kernel⟩
def plcs (w : Str) : List (List Str) := if w = "set" then [["keep", "input", "read"], ["keep", "none", "now", "read", "copy"]] else if w = "put" then [["none", "now", "read", "copy"]] else if w = "insert" then [["none", "now"]] else []
abbrev heads : List Str := ["set", "put", "insert", "delete"]
abbrev cks : List Str := ["missing", "same old", "same new"]
theorem Txt.pl {K : PySem.W.Frag} {mg : Str → Option Value} {w : World} (T : Txt K mg w) {x : Str} (h : x ∈ heads) : Ent K "PLACES" x (plcs x) := by
  simp only [heads, List.mem_cons, List.not_mem_nil, or_false] at h
  rcases h with rfl | rfl | rfl | rfl
  · exact T.d_PLACES_set
  · exact T.d_PLACES_put
  · exact T.d_PLACES_insert
  · exact T.d_PLACES_delete
def wdsT (ts : List Tr) (ws : List Str) : Bool := match Tr.strs? ts with
  | some cs => wdsOk cs ws
  | none => false
def midT (ts : List Tr) (ps : List (List Str)) : Bool := decide (ts.length = ps.length) && (ts.zip ps).all fun q => Tr.wordT q.1 q.2
/-- what stands behind the first word is right -/
def restT (w : Str) (ts : List Tr) : Bool := if w = "insert" then midT ts (plcs w) else match ts.getLast? with
  | some (.tup cs) => wdsT cs cks && midT ts.dropLast (plcs w)
  | _ => false
def isSt : Tr → Bool
  | .tup (.str w :: t :: ts) => heads.contains w && restT w (t :: ts)
  | _ => false
/-- it is one, or none -/
def IsSt (K : PySem.W.Frag) (H : Hp) (x : V) (r : Bool) : Prop := ∃ t, At K H x t ∧ t.fine = true ∧ isSt t = r
def spIst (K : PySem.W.Frag) : Sp := fun vs H Q _ => ∃ (x : V) (r : Bool), vs = [x] ∧ IsSt K H x r ∧ ∀ H', Same H H' → Q (.bl r) H'
section
variable {P : Program} {w : World} {K : PySem.W.Frag} {mg : Str → Option Value} {base : Heap} {f : Addr} {fd fdI fdW fdS : FuncData}
theorem ok_ist (F : FnP K "is_statement" sIst f fd) (T : Txt K mg w) (FW : FnWrd K fdW) (FS : FnWds K fdS) : FnOk P w K mg base CX0 3 f fd ["value"] (spIst K) := by
  have GW : FnOk P w K mg base CX0 1 (ga K "is_word") fdW ["value", "words"] (spWrd K) := ok_wrd FW T
  have GS : FnOk P w K mg base CX0 2 (ga K "are_words") fdS ["values", "words"] (spWds K) := ok_wds FS T FW
  obtain ⟨es, en, KD⟩ := T.dict_PLACES
  refine F.ok scIst (fun vs H Q E h => ?_) (fun cdv A outer s H vs Q E hr h => ?_)
  · obtain ⟨x, r, rfl, _⟩ := h
    rfl
  have r1 : Room 1 _ := hr.mono (by decide)
  refine ⟨_, PSs.nox (pss_cons (ps_if (PW.pt (pw_or (pt_not (pt_val (pe_callB call_isi (by rfl) T.g_isinstance boot_isinstance (pa_cons (pv 0) (pa_cons (pe_bltn (v := .ty "tuple") (by rfl) T.g_tuple boot_tuple rfl) pa_nil))))) (pw_or (pt_cmpR op_lt (pe_callB call_len_seq (by rfl) T.g_len boot_len (pa_cons (pv 0) pa_nil)) pe_int (nomark _)) (pw_or1 (pt_not (pt_val (pe_callB call_isi (by rfl) T.g_isinstance boot_isinstance (pa_cons (pe_ix ix_tup (pv 0) pe_int (fun _ _ => rfl)) (pa_cons (pe_bltn (v := .ty "str") (by rfl) T.g_str boot_str rfl) pa_nil))))))))) (pss_one (ps_ret pe_bl)) pss_nil)
     (pss_cons (ps_if (pt_cmpR (op_notIn_kd KD) (pe_ix ix_tup (pv 0) pe_int (fun _ _ => rfl)) (pe_glob (v := .ref (ga K "PLACES")) (by rfl) T.m_PLACES rfl) (by rfl)) (pss_one (ps_ret pe_bl)) pss_nil)
     (pss_cons (ps_set (i := 1) scIst.nd rfl (Or.inl rfl) (pe_ix (ix_kd KD) (pe_glob (v := .ref (ga K "PLACES")) (by rfl) T.m_PLACES rfl) (pe_ix ix_tup (pv 0) pe_int (fun _ _ => rfl)) (fun _ _ => rfl)))
     (pss_cons (ps_set (i := 2) scIst.nd rfl (Or.inl rfl) (pe_slice sl_tup (pv 0) (po_some pe_int) po_none))
     (pss_cons (ps_if (pt_cmpR op_ne (pe_ix ix_tup (pv 0) pe_int (fun _ _ => rfl)) pe_str (nomark _)) (pss_cons (ps_if (PW.pt (pw_or (pt_not (pt_val (pe_callB call_isi (by rfl) T.g_isinstance boot_isinstance (pa_cons (pe_ix ix_tup (pv 2) (pe_un un_neg pe_int) (fun _ _ => rfl)) (pa_cons (pe_bltn (v := .ty "tuple") (by rfl) T.g_tuple boot_tuple rfl) pa_nil))))) (pw_or1 (pt_not (pt_val (pe_call GS hr (by rfl) T.m_are_words FS.kp (bWds FS) .nil pass0 (pa_cons (pe_ix ix_tup (pv 2) (pe_un un_neg pe_int) (fun _ _ => rfl)) (pa_cons (pe_glob (v := .ref (ga K "CHECKS")) (by rfl) T.m_CHECKS rfl) pa_nil)))))))) (pss_one (ps_ret pe_bl)) pss_nil) (pss_one (ps_set (i := 2) scIst.nd rfl (Or.inl rfl) (pe_slice sl_tup (pv 2) po_none (po_some (pe_un un_neg pe_int)))))) pss_nil)
     (pss_one (ps_ret (pe_and (pe_cmpR op_eq (pe_callB call_len_seq (by rfl) T.g_len boot_len (pa_cons (pv 2) pa_nil)) (pe_callB call_len_seq (by rfl) T.g_len boot_len (pa_cons (pv 1) pa_nil)) (nomark _)) (pe_one (pe_callB (cr_all rfl) (by rfl) T.g_all boot_all (pa_cons (pe_lc (own := [("word", 3), ("words", 4)]) (g := gTup K 2 (gCons (gName 3) (gCons (gName 4) gNil))) (tt := tYes) rfl scIst.nd (pi_zipA (by rfl) T.g_zip (pa_cons (pv 2) (pa_cons (pv 1) pa_nil))) (blkOk_by (N := nIst) (sc := defScope sIst) (by decide +kernel)) (fun _ _ _ _ _ => by exact pg_tup rfl (pgs_cons (pg_name (i := 3) scIst.nd rfl (Or.inl rfl)) (pgs_cons (pg_name (i := 4) scIst.nd rfl (Or.inl rfl)) pgs_nil))) (fun _ _ _ _ _ => pts_nil) (fun _ _ _ _ _ => pe_call GW r1 (by rfl) T.m_is_word FW.kp (bWrd FW) .nil pass0 (pa_cons (pv 3) (pa_cons (pv 4) pa_nil)))) pa_nil))))))))))), ?_⟩
  obtain ⟨x, _, rfl, ⟨t, hx, fx, rfl⟩, k⟩ := h
  -- no tuple
  by_cases nt : ∃ us, t = .tup us
  case neg =>
    have e : isSt t = false := by
      unfold isSt
      split
      · exact absurd ⟨_, rfl⟩ nt
      · rfl
    rw [e] at k
    exact ⟨_, rfl, _, _, _, _, false, rfl, .ty "tuple", hx.ty, noTup (fun us e => nt ⟨us, e⟩) _, false, rfl, iteT (k H (Same.refl H))⟩
  obtain ⟨ts, rfl⟩ := nt
  obtain ⟨ln, fs⟩ := Tr.fine_tup fx
  cases hx with
  | tup h hs =>
    rename_i p xs
    have lx := hs.len
    have ty := sqT_ty h
    have kk : PySem.W.kitOne K (.type "tuple") (.type "tuple") = some true := kit_ty (by decide +kernel)
    refine ⟨_, rfl, _, _, _, _, true, rfl, .ty "tuple", ty, kk, true, rfl, iteF ?_⟩
    refine ⟨_, rfl, _, _, rfl, .inr h, _, _, rfl, rfl, _, rfl, ?_⟩
    -- too short
    by_cases sh : ts.length < 2
    case pos =>
      have e : isSt (.tup ts) = false := by
        match ts, sh with
        | [], _ => rfl
        | [t], _ => cases t <;> rfl
      rw [e] at k
      rw [decide_eq_true (by omega)]
      exact iteT (k H (Same.refl H))
    rw [decide_eq_false (by omega)]
    obtain ⟨t0, t1, tr, rfl⟩ : ∃ t0 t1 tr, ts = t0 :: t1 :: tr := by
      match ts, sh with
      | t0 :: t1 :: tr, _ => exact ⟨t0, t1, tr, rfl⟩
      | [t], h => exact absurd (show 1 < 2 by decide) h
      | [], h => exact absurd (show 0 < 2 by decide) h
    obtain ⟨x0, xr, rfl, hx0, hr0⟩ : ∃ x0 xr, xs = x0 :: xr ∧ At K H x0 t0 ∧ Ats K H xr (t1 :: tr) := by
      cases hs with
      | cons a b => exact ⟨_, _, rfl, a, b⟩
    have f0 : t0.fine = true := Tr.fines_all fs _ (List.mem_cons_self ..)
    have fr : Tr.fines (t1 :: tr) = true := Tr.fines_of fun u hu => Tr.fines_all fs u (List.mem_cons_of_mem _ hu)
    have ltr : (t1 :: tr).length ≤ 1000 := by
      simp only [List.length_cons] at ln ⊢
      omega
    -- the first is no text
    by_cases n0 : ∃ z, t0 = .str z
    case neg =>
      have e : isSt (.tup (t0 :: t1 :: tr)) = false := by
        unfold isSt
        split
        · rename_i e
          cases e
          exact absurd ⟨_, rfl⟩ n0
        · rfl
      rw [e] at k
      exact iteF ⟨_, rfl, _, _, _, _, rfl, rfl, h, at0, _, _, _, _, false, rfl, .ty "str", hx0.ty, noStr (fun z e => n0 ⟨z, e⟩) _, false, rfl, iteT (k H (Same.refl H))⟩
    obtain ⟨z, rfl⟩ := n0
    obtain rfl : x0 = .str z := by cases hx0; rfl
    have ek : isSt (.tup (.str z :: t1 :: tr)) = (heads.contains z && restT z (t1 :: tr)) := rfl
    rw [ek] at k
    refine iteF ⟨_, rfl, _, _, _, _, rfl, rfl, h, at0, _, _, _, _, true, rfl, .ty "str", .base (.str _), kit_ty (by decide +kernel), true, rfl, iteF ?_⟩
    -- no such word
    by_cases hw : z ∈ heads
    case neg =>
      have hc : heads.contains z = false := by
        cases hc : heads.contains z with
        | true => exact absurd (List.contains_iff_mem.mp hc) hw
        | false => rfl
      rw [hc] at k
      exact ⟨_, rfl, _, _, _, _, rfl, rfl, h, at0, _, _, rfl, rfl, T.ks_PLACES z hc, _, rfl, iteT (k H (Same.refl H))⟩
    rw [List.contains_iff_mem.mpr hw, Bool.true_and] at k
    obtain ⟨pp, ps, e1, e2, e3, e4⟩ := T.pl (x := z) hw
    refine ⟨_, rfl, _, _, _, _, rfl, rfl, h, at0, _, _, rfl, rfl, e1, _, rfl, iteF ?_⟩
    refine ⟨_, rfl, _, _, _, _, rfl, rfl, h, at0, _, _, .ref pp, rfl, rfl, e1, rfl, ?_⟩
    refine ⟨_, rfl, _, rfl, _, _, rfl, h, not1, fun rr nr => ?_⟩
    rw [cut1]
    have sG := Same.new (o := .tup xr) nr
    have lxr := hr0.len
    have hG : upd H rr (.tup xr) rr = some (.tup xr) := upd_same
    have hzs := hr0.same sG
    have h' := sqT_same' sG h
    generalize upd H rr (.tup xr) = G at sG hG hzs h' ⊢
    refine ⟨_, rfl, _, _, _, _, rfl, rfl, h', at0, rfl, _, rfl, ?_⟩
    have lz := ltr
    by_cases wi : z = "insert"
    · subst wi
      have kk : ∀ H', Same G H' → Q (.bl (midT (t1 :: tr) (plcs "insert"))) H' := fun H' s => by
        have := k H' (sG.trans s)
        unfold restT at this
        rw [if_pos rfl] at this
        exact this
      refine iteF ?_
      obtain ⟨us, eus⟩ : ∃ us, us = t1 :: tr := ⟨_, rfl⟩
      obtain ⟨zs, ezs⟩ : ∃ zs, zs = xr := ⟨_, rfl⟩
      rw [← eus] at kk hzs lz lxr
      rw [← ezs] at hzs hG lxr
      have lus := lxr
      clear hr0 h h' hs k
      refine ⟨_, rfl, rr, _, rfl, .inr (SqT.of hG), _, rfl, pp, _, rfl, .inr (e2 _), rfl, _, rfl, ?_⟩
      by_cases ll : us.length = (plcs "insert").length
      case neg =>
        have em : midT us (plcs "insert") = false := by
          unfold midT
          rw [decide_eq_false ll]
          rfl
        rw [em] at kk
        rw [decide_eq_false (fun e => ll (by
          have := V.int.inj e
          rw [List.length_map, e3] at this
          omega))]
        exact iteF (kk G (Same.refl G))
      have em : midT us (plcs "insert") = (us.zip (plcs "insert")).all fun q => Tr.wordT q.1 q.2 := by
        unfold midT
        rw [decide_eq_true ll]
        rfl
      rw [em] at kk
      rw [decide_eq_true (by rw [List.length_map, e3, lus, ll])]
      refine iteT ?_
      refine ⟨_, rfl, _, rfl, rr, pp, _, _, rfl, .inr ⟨SqT.of hG, e2 _, fun D nD => ?_⟩⟩
      refine lc_zipT (K := K) (xs := zs) (ys := ps.map V.ref) (by rw [List.length_map, e3, lus, ll]) (fun i G' => Same G G' ∧ G' D = some (.lst (((us.zip (plcs "insert")).take i).map fun q => V.bl (Tr.wordT q.1 q.2)))) ⟨Same.new nD, upd_same⟩
        (fun i G' g => ⟨SqT.of (g.1 _ _ hG), e2 _⟩) (fun i x y T G' hx hy g nT => ?_) (fun G' g => ?_)
      · obtain ⟨s2, h2⟩ := g
        rw [List.getElem?_map] at hy
        obtain ⟨pi, hpi, rfl⟩ := Option.map_eq_some_iff.mp hy
        obtain ⟨t, ht, at_⟩ := hzs.get hx
        have li := (List.getElem?_eq_some_iff.mp ht).1
        have hw2 : (plcs "insert")[i]? = some (plcs "insert")[i] := List.getElem?_eq_getElem (by omega)
        have hz : (us.zip (plcs "insert"))[i]? = some (t, (plcs "insert")[i]) := by
          rw [List.getElem?_zip_eq_some]
          exact ⟨ht, hw2⟩
        have s3 := s2.trans (Same.new (o := .tup [x, .ref pi]) nT)
        have fin : ∀ b : Bool, b = Tr.wordT t (plcs "insert")[i] → ∃ acc, upd G' T (.tup [x, .ref pi]) D = some (.lst acc) ∧ acc.length < sizeLine ∧ Same G (upd (upd G' T (.tup [x, .ref pi])) D (.lst (acc ++ [.bl b]))) ∧ upd (upd G' T (.tup [x, .ref pi])) D (.lst (acc ++ [.bl b])) D = some (.lst (((us.zip (plcs "insert")).take (i + 1)).map fun q => V.bl (Tr.wordT q.1 q.2))) := fun b e => by
          refine ⟨_, (Same.new (o := .tup [x, .ref pi]) nT) _ _ h2, ?_, same_put s3 nD, ?_⟩
          · rw [List.length_map, List.length_take, List.length_zip]
            have : 1000 < sizeLine := by decide
            omega
          · rw [List.take_succ, hz, e]
            simp only [Option.toList, List.map_append]
            exact upd_same
        refine ⟨T, _, rfl, SqT.of upd_same, rfl, _, _, rfl, _, _, rfl, rfl, rfl, ?_⟩
        refine ⟨_, rfl, _, rfl, _, pi, _, rfl, e4 i pi _ hpi hw2 _, ?_⟩
        by_cases ns : ∃ z, t = .str z
        · obtain ⟨z, rfl⟩ := ns
          cases at_
          exact .inl ⟨z, rfl, fin _ rfl⟩
        · refine .inr ⟨(at_.same s3).noTx fun z e => ns ⟨z, e⟩, fin _ ?_⟩
          unfold Tr.wordT
          split
          · exact absurd ⟨_, rfl⟩ ns
          · rfl
      · obtain ⟨s2, h2⟩ := g
        have full : (us.zip (plcs "insert")).take zs.length = us.zip (plcs "insert") := by
          apply List.take_of_length_le
          rw [List.length_zip]
          omega
        rw [full] at h2
        refine ⟨D, (us.zip (plcs "insert")).map (fun q => Tr.wordT q.1 q.2), rfl, SqL.of (by rw [List.map_map]; exact h2), ?_⟩
        rw [List.all_map]
        exact kk G' s2
    · rw [show (!decide (V.str z = V.str "insert")) = true by simp [wi]]
      -- the last one
      obtain ⟨us, tl, eul⟩ : ∃ us tl, t1 :: tr = us ++ [tl] := ⟨(t1 :: tr).dropLast, (t1 :: tr).getLast (by simp), (List.dropLast_concat_getLast (by simp)).symm⟩
      rw [eul] at hzs
      have fr' := fr
      rw [eul] at fr'
      obtain ⟨zs, ls, ezs, hz1, hz2⟩ := hzs.unapp
      obtain ⟨xl, rfl, hl⟩ : ∃ xl, ls = [xl] ∧ At K G xl tl := by
        cases hz2 with
        | cons a b =>
          cases b
          exact ⟨_, rfl, a⟩
      rw [ezs] at hG
      have ftl : tl.fine = true := Tr.fines_all fr' _ (by simp)
      have kr : ∀ b : Bool, b = restT z (t1 :: tr) → ∀ H', Same G H' → Q (.bl b) H' := fun b e H' s => by
        rw [e]
        exact k H' (sG.trans s)
      have er : restT z (t1 :: tr) = (match some tl with | some (.tup cs) => wdsT cs cks && midT us (plcs z) | _ => false) := by
        unfold restT
        rw [if_neg wi, eul, List.getLast?_append, List.dropLast_concat]
        rfl
      rw [er] at kr
      refine iteT ⟨_, rfl, 1, rfl, _, _, _, _, rfl, rfl, SqT.of hG, atL, ?_⟩
      by_cases ntl : ∃ cs, tl = .tup cs
      case neg =>
        refine ⟨_, _, _, _, false, rfl, .ty "tuple", hl.ty, noTup (fun us e => ntl ⟨us, e⟩) _, false, rfl, iteT (kr false ?_ G (Same.refl G))⟩
        split
        · rename_i e
          cases e
          exact absurd ⟨_, rfl⟩ ntl
        · rfl
      obtain ⟨cs, rfl⟩ := ntl
      obtain ⟨lcs, fcs⟩ := Tr.fine_tup ftl
      cases hl with
      | tup hq hqs =>
        rename_i q ys
        refine ⟨_, _, _, _, true, rfl, .ty "tuple", sqT_ty hq, kit_ty (by decide +kernel), true, rfl, iteF ?_⟩
        refine ⟨_, rfl, 1, rfl, _, _, _, _, rfl, rfl, SqT.of hG, atL, q, _, ys, cks, rfl, .inr hq, hqs.told fcs, by rw [hqs.len]; exact lcs, T.t_CHECKS, by decide, by decide +kernel, fun G2 S2 => ?_⟩
        have ew : wdsB ys cks = wdsT cs cks := by
          unfold wdsB wdsT
          rw [hqs.txs]
          try (cases Tr.strs? cs <;> rfl)
        rw [ew]
        have kr : ∀ b : Bool, b = (wdsT cs cks && midT us (plcs z)) → ∀ H', Same G H' → Q (.bl b) H' := kr
        cases ok : wdsT cs cks with
        | false =>
          rw [ok] at kr
          exact ⟨false, rfl, iteT (kr false rfl G2 S2)⟩
        | true =>
          rw [ok, Bool.true_and] at kr
          refine ⟨true, rfl, iteF ?_⟩
          refine ⟨_, rfl, 1, rfl, _, rfl, _, _, rfl, SqT.of (S2 _ _ hG), notL, fun r2 nr2 => ?_⟩
          rw [cutL]
          have S3 := S2.trans (Same.new (o := .tup zs) nr2)
          have hG3 : upd G2 r2 (.tup zs) r2 = some (.tup zs) := upd_same
          have hzs := hz1.same S3
          have lus := hz1.len
          have kk : ∀ H', Same (upd G2 r2 (.tup zs)) H' → Q (.bl (midT us (plcs z))) H' := fun H' s => kr _ rfl H' (S3.trans s)
          have lz : us.length ≤ 1000 := by
            have := congrArg List.length eul
            rw [List.length_append] at this
            omega
          clear kr k hz1 hz2 hq hqs hG
          generalize upd G2 r2 (.tup zs) = G at hG3 hzs kk ⊢
          have hG := hG3
          obtain ⟨rr, err⟩ : ∃ rr, rr = r2 := ⟨_, rfl⟩
          rw [← err] at hG ⊢
          refine ⟨_, rfl, rr, _, rfl, .inr (SqT.of hG), _, rfl, pp, _, rfl, .inr (e2 _), rfl, _, rfl, ?_⟩
          by_cases ll : us.length = (plcs z).length
          case neg =>
            have em : midT us (plcs z) = false := by
              unfold midT
              rw [decide_eq_false ll]
              rfl
            rw [em] at kk
            rw [decide_eq_false (fun e => ll (by
              have := V.int.inj e
              rw [List.length_map, e3] at this
              omega))]
            exact iteF (kk G (Same.refl G))
          have em : midT us (plcs z) = (us.zip (plcs z)).all fun q => Tr.wordT q.1 q.2 := by
            unfold midT
            rw [decide_eq_true ll]
            rfl
          rw [em] at kk
          rw [decide_eq_true (by rw [List.length_map, e3, lus, ll])]
          refine iteT ?_
          refine ⟨_, rfl, _, rfl, rr, pp, _, _, rfl, .inr ⟨SqT.of hG, e2 _, fun D nD => ?_⟩⟩
          refine lc_zipT (K := K) (xs := zs) (ys := ps.map V.ref) (by rw [List.length_map, e3, lus, ll]) (fun i G' => Same G G' ∧ G' D = some (.lst (((us.zip (plcs z)).take i).map fun q => V.bl (Tr.wordT q.1 q.2)))) ⟨Same.new nD, upd_same⟩
            (fun i G' g => ⟨SqT.of (g.1 _ _ hG), e2 _⟩) (fun i x y T G' hx hy g nT => ?_) (fun G' g => ?_)
          · obtain ⟨s2, h2⟩ := g
            rw [List.getElem?_map] at hy
            obtain ⟨pi, hpi, rfl⟩ := Option.map_eq_some_iff.mp hy
            obtain ⟨t, ht, at_⟩ := hzs.get hx
            have li := (List.getElem?_eq_some_iff.mp ht).1
            have hw2 : (plcs z)[i]? = some (plcs z)[i] := List.getElem?_eq_getElem (by omega)
            have hz : (us.zip (plcs z))[i]? = some (t, (plcs z)[i]) := by
              rw [List.getElem?_zip_eq_some]
              exact ⟨ht, hw2⟩
            have s3 := s2.trans (Same.new (o := .tup [x, .ref pi]) nT)
            have fin : ∀ b : Bool, b = Tr.wordT t (plcs z)[i] → ∃ acc, upd G' T (.tup [x, .ref pi]) D = some (.lst acc) ∧ acc.length < sizeLine ∧ Same G (upd (upd G' T (.tup [x, .ref pi])) D (.lst (acc ++ [.bl b]))) ∧ upd (upd G' T (.tup [x, .ref pi])) D (.lst (acc ++ [.bl b])) D = some (.lst (((us.zip (plcs z)).take (i + 1)).map fun q => V.bl (Tr.wordT q.1 q.2))) := fun b e => by
              refine ⟨_, (Same.new (o := .tup [x, .ref pi]) nT) _ _ h2, ?_, same_put s3 nD, ?_⟩
              · rw [List.length_map, List.length_take, List.length_zip]
                have : 1000 < sizeLine := by decide
                omega
              · rw [List.take_succ, hz, e]
                simp only [Option.toList, List.map_append]
                exact upd_same
            refine ⟨T, _, rfl, SqT.of upd_same, rfl, _, _, rfl, _, _, rfl, rfl, rfl, ?_⟩
            refine ⟨_, rfl, _, rfl, _, pi, _, rfl, e4 i pi _ hpi hw2 _, ?_⟩
            by_cases ns : ∃ z, t = .str z
            · obtain ⟨z, rfl⟩ := ns
              cases at_
              exact .inl ⟨z, rfl, fin _ rfl⟩
            · refine .inr ⟨(at_.same s3).noTx fun z e => ns ⟨z, e⟩, fin _ ?_⟩
              unfold Tr.wordT
              split
              · exact absurd ⟨_, rfl⟩ ns
              · rfl
          · obtain ⟨s2, h2⟩ := g
            have full : (us.zip (plcs z)).take zs.length = us.zip (plcs z) := by
              apply List.take_of_length_le
              rw [List.length_zip]
              omega
            rw [full] at h2
            refine ⟨D, (us.zip (plcs z)).map (fun q => Tr.wordT q.1 q.2), rfl, SqL.of (by rw [List.map_map]; exact h2), ?_⟩
            rw [List.all_map]
            exact kk G' s2
end
end K55

set_option maxRecDepth 100000
set_option maxHeartbeats 4000000
/-! raise C() of an own exception class whose __init__ takes nothing and sets nothing. -/
namespace L2
open PySem PySem.Spec PyProof.Rows
section
variable {X : Cx} {pins : List (Addr × Obj)} {σ : St}
theorem mk_none {H1 H2 : Hp} {Q : XK} {hp hp2 h2 : Heap} {g1 g2 : Array GenState} {d1 d2 : Drawn} {t1 t2 : Nat} {os1 os2 : OsState} {a C : Addr} (T : Raises X (.ref C)) (I1 : Inv X pins σ H1 ⟨hp, g1, d1, t1, os1⟩)
    (ha : hp.objs.size ≤ a) (k : ∀ b o, hp.get? b = some o → hp2.get? b = some o) (un : Un (frs X.stack) [] (upd H1 a (exo a C none)) H2 hp2 h2) (hok : HOk X.prog X.w H2 h2) (ho : os2 = os1) (hb : AllBare g2)
    (ea : H2 a = some (exo a C none)) (q : Q (.ref C) none (del H2 a)) : MkP X pins σ Q (.ref a) ⟨h2, g2, d2, t2, os2⟩ := by
  obtain ⟨t0, at_a⟩ := exo_at hok ea
  have new : H1 a = none := I1.hok.fresh ha
  obtain ⟨G, keepG, outG⟩ := restrict h2 fun b => decide (b ≠ a)
  have same : ∀ b, b ≠ a → G.get? b = h2.get? b := fun b n => keepG b (decide_eq_true n)
  have gone : G.get? a = none := outG a (by simp)
  have old : ∀ {b : Addr} {o : Obj}, hp.get? b = some o → b ≠ a := fun {b o} z => Nat.ne_of_lt (Nat.lt_of_lt_of_le (Heap.lt_size z) ha)
  have un1 : ∀ {b : Addr}, b ≠ a → H1 b = none → upd H1 a (exo a C none) b = none := fun {b} n z => (upd_ne n).trans z
  have U : Un (frs X.stack) [] H1 (del H2 a) hp G :=
    ⟨fun b o z n f x => (same b (old z)).trans (un.keep b o (k b o z) (un1 (old z) n) f x),
     fun b o z n f x => by
      obtain ⟨sl, e⟩ := un.slot b o (k b o z) (un1 (old z) n) f x
      exact ⟨sl, (same b (old z)).trans e⟩,
     fun b o z n x => (del_ne (old z)).trans (un.free b o (k b o z) (un1 (old z) n) x),
     fun b o z x => by
      obtain ⟨o', e⟩ := un.there b o (k b o z) x
      exact ⟨o', (same b (old z)).trans e⟩,
     fun b xs z => (del_ne (ne_of_none z new)).trans (un.tups b xs ((upd_ne (ne_of_none z new)).trans z)),
     fun b o v z => (del_ne (ne_of_none z new)).trans (un.frzs b o v ((upd_ne (ne_of_none z new)).trans z)),
     fun b ps z => by
      obtain ⟨more, e⟩ := un.tbls b ps ((upd_ne (ne_of_none z new)).trans z)
      exact ⟨more, (del_ne (ne_of_none z new)).trans e⟩⟩
  have okG : HOk X.prog X.w (del H2 a) G := fun b o z => by
    have n : b ≠ a := fun e => by
      rw [e, del_same] at z
      cases z
    rw [del_ne n] at z
    have noa : ∀ {c : Addr}, H2 c = some (.own b) → c ≠ a := fun {c} hc => at_ne ea hc exo_own
    exact (hok b o z).stay (fun c v hc y => (same c (hc.elim (fun e => e ▸ n) noa)).trans y) (fun c hc => (del_ne (noa hc)).trans hc) (fun c xs hc => (del_ne (at_ne ea hc exo_tup)).trans hc)
  have J : Inv X pins σ (del H2 a) ⟨G, g2, d2, t2, os2⟩ := I1.call' (ch := []) ho U okG hb (fun b z => absurd z (by simp))
  refine ⟨a, _, _, ⟨G, g2, d2, t2, os2⟩, _, .ref C, none, rfl, J, fun b o z => ?_, gone, at_a, ⟨rfl, rfl⟩, rfl, rfl, del_same, rfl, hb, T, q⟩
  by_cases n : b = a
  · rw [n, gone] at z
    cases z
  · exact (same b n).symm.trans z
/-- C() -/
def tMkN (C : Addr) (sp : Sp) : St → Hp → XK → Prop := fun _ H Q => ∀ a, H a = none → sp [.ref a] (upd H a (exo a C none)) (fun v H2 => v = .non ∧ H2 a = some (exo a C none) ∧ Q (.ref C) none (del H2 a)) fun _ _ _ => False
theorem pmk_oexN {CX : CXT} {x : Str} {C fI : Addr} {k : Nat} {fd : FuncData} {sp : Sp} {p pos : Pos} {s0 : Str} (T : OexC X.K C) (iC : PySem.W.findIn X.K (.ref C) "__init__" = some (some (.ref fI))) (tI : PySem.W.typeIn X.K (.ref fI) = some (.type "function"))
    (F1 : FnOk X.prog X.w X.K X.mg X.base CX k fI fd [s0] sp) (hr : Room (k + 1) X.A) (hb : Binds X.K fd [s0] []) (hx : Passes CX X (fun _ _ _ => False)) (hg : Gl X x) (hm : X.mg x = some (.ref C))
    (hdb : (x == ("__debug__" : Str)) = false := by decide) : PMk X (.Call (.Name x p) [] [] pos) (tMkN C sp) := by
  intro pins s σ H Q I h
  obtain ⟨nm, q, N, bs, bm, sn, sub, ab, col, dd, k0, k1, k2, k3, k5, hC, hbm⟩ := T.cls
  refine wpAny_Call_Name_kw (ld_glob I hg hm ?_ hdb)
  refine PySem.W.callWith_K0 I.kIn T.kC ?_
  show wpAny _ _ (call (.ref C) []) _ _ _
  obtain ⟨hp, g, dr, tk, os⟩ := s
  have up1 : hp.objs.size ≤ hp.objs.size + 1 := Nat.le_succ _
  have hq := h (hp.objs.size + 1) (I.hok.fresh up1)
  have kk : ∀ b o, hp.get? b = some o → ((hp.push (PySem.W.kdv_tup [])).push (PySem.HandSPX.excO C hp.objs.size)).get? b = some o := fun b o e => Heap.get?_push_of_some _ (Heap.get?_push_of_some _ e)
  have hget : ((hp.push (PySem.W.kdv_tup [])).push (PySem.HandSPX.excO C hp.objs.size)).get? (hp.objs.size + 1) = some (PySem.HandSPX.excO C hp.objs.size) := by heap_get
  have I2 : Inv X pins σ (upd H (hp.objs.size + 1) (exo (hp.objs.size + 1) C none)) ⟨(hp.push (PySem.W.kdv_tup [])).push (PySem.HandSPX.excO C hp.objs.size), g, dr, tk, os⟩ := I.laid (t' := tk) kk up1 (exo_ok hget)
  refine wpAny_call (PySem.HandSPX.call_own F.excBase_ValueError (fun Y => PySem.HandSPX.refsVE_contains Y bm hbm) (I.kIn _ _ hC) (PySem.W.looks_findIn I.kIn iC) (fun self => PySem.W.bind_fn I.kIn self tI) (Nat.zero_le _)
    (codeAny_mono (F1.run _ X.stack _ _ ⟨[Value.ref (hp.objs.size + 1)], []⟩ [Value.ref (hp.objs.size + 1)] _ _ (fun _ _ _ => False) (hr.make C [] []) (I2.env0.make C [] []) (hb _ [Value.ref (hp.objs.size + 1)] I2.kIn rfl) (show Vals [V.ref (hp.objs.size + 1)] [Value.ref (hp.objs.size + 1)] from .cons rfl .nil) hq) fun r s' hq' => ?_))
  cases r with
  | error er => exact hx pins σ _ _ er s' I2 hq'
  | ok fl =>
    cases fl with
    | ret u =>
      obtain ⟨v, H2, os2, bare2, un2, hok2, rv, ev, ea, q2⟩ := hq'
      subst ev
      obtain ⟨h2, g2, d2, t2, os'⟩ := s'
      exact ⟨rv, mk_none (raises_own T.exC T.tyC) I up1 kk un2 hok2 os2 bare2 ea q2⟩
    | next => exact False.elim hq'
    | brk => exact False.elim hq'
    | cont => exact False.elim hq'
end
end L2

set_option maxRecDepth 100000
set_option maxHeartbeats 4000000
namespace K55
open PySem PySem.Spec PyProof.Rows L2 He VH RZ
abbrev sChk : Stmt := top 28
abbrev sHas : Stmt := top 30
abbrev FnChk (K : PySem.W.Frag) (fd : FuncData) : Prop := FnP K "checks_of" sChk (ga K "checks_of") fd
abbrev FnHas (K : PySem.W.Frag) (fd : FuncData) : Prop := FnP K "has_word" sHas (ga K "has_word") fd
theorem bChk {K : PySem.W.Frag} {fd : FuncData} (F : FnChk K fd) : Binds K fd ["statement"] [] := FunD.bindsN F fun _ _ _ _ _ _ us hl => match us, hl with | [_], _ => rfl
theorem bHas {K : PySem.W.Frag} {fd : FuncData} (F : FnHas K fd) : Binds K fd ["statement", "words"] [] := FunD.bindsN F fun _ _ _ _ _ _ us hl => match us, hl with | [_, _], _ => rfl
abbrev FnNos (K : PySem.W.Frag) (fd : FuncData) : Prop := FnM K "__init__" "NoStatement.__init__" 2 0 (ma K (ga K "NoStatement") "__init__") fd
/-- a statement's word, what stands behind it, its checks -/
structure Stp where
  w : Str
  mid : List Str
  cs : List Str
deriving DecidableEq
def Stp.ok (s : Stp) : Bool := heads.contains s.w && (decide (s.mid.length = (plcs s.w).length) && ((s.mid.zip (plcs s.w)).all (fun q => q.2.contains q.1) && (wdsOk s.cs cks && (s.w != "insert" || s.cs.isEmpty))))
/-- it stands at p -/
def StAt (H : Hp) (p : Addr) (s : Stp) : Prop := if s.w = "insert" then H p = some (.tup (.str "insert" :: s.mid.map V.str)) else ∃ q, H p = some (.tup (.str s.w :: (s.mid.map V.str ++ [.ref q]))) ∧ H q = some (.tup (s.cs.map V.str))
theorem StAt.same {H H' : Hp} {p : Addr} {s : Stp} (h : StAt H p s) (e : ∀ b xs, H b = some (.tup xs) → H' b = some (.tup xs)) : StAt H' p s := by
  unfold StAt at h ⊢
  split
  · rename_i z
    rw [if_pos z] at h
    exact e _ _ h
  · rename_i z
    rw [if_neg z] at h
    obtain ⟨q, h1, h2⟩ := h
    exact ⟨q, e _ _ h1, e _ _ h2⟩
/-- a raise of NoStatement -/
def Rn (K : PySem.W.Frag) (E : XK) (H : Hp) : Prop := ∀ H' : Hp, Same H H' → E (.ref (ga K "NoStatement")) none H'
def spPass : Sp := fun vs H Q _ => ∃ v, vs = [v] ∧ Q .non H
section
variable {P : Program} {w : World} {K : PySem.W.Frag} {mg : Str → Option Value} {base : Heap} {f : Addr} {fd fdI fdW fdS fdN fdC fdT : FuncData}
theorem scNos : FnScope ["self"] ["self"] (defScope (inClass (top 2) 0)) := ⟨rfl, rfl, rfl, by decide +kernel, rfl, by decide +kernel, by decide +kernel⟩
theorem okNos (F : FnM K "__init__" "NoStatement.__init__" 2 0 f fd) : FnOk P w K mg base CX0 1 f fd ["self"] spPass := by
  refine F.ok scNos (fun vs H Q E h => ?_) (fun cdv A outer s H vs Q E hr h => ?_)
  · obtain ⟨a, rfl, _⟩ := h
    rfl
  refine ⟨_, PSs.nox (pss_one ps_pass), ?_⟩
  obtain ⟨a, rfl, q⟩ := h
  exact q
theorem bNos (F : FnM K "__init__" "NoStatement.__init__" 2 0 f fd) : Binds K fd ["self"] [] := FunD.bindsN F fun _ _ _ _ _ _ us hl => match us, hl with | [_], _ => rfl
theorem read_nos {H : Hp} {E : XK} (h : Rn K E H) : tMkN (ga K "NoStatement") spPass ([] : L2.St) H (fun cls d H' => E cls d H') := fun a n => ⟨_, rfl, rfl, upd_same, h _ fun b o e => by
  rw [del_ne (ne_of_none e n), upd_ne (ne_of_none e n)]
  exact e⟩
theorem scChk : FnScope ["statement"] ["statement"] (defScope sChk) := ⟨rfl, rfl, rfl, by decide +kernel, rfl, by decide +kernel, by decide +kernel⟩
/-- the checks of a statement: a tuple of texts -/
def spChk (K : PySem.W.Frag) : Sp := fun vs H Q _ => ∃ (p : Addr) (s : Stp), vs = [.ref p] ∧ StAt H p s ∧ s.ok = true ∧ ∀ (H' : Hp) (q : Addr), Same H H' → H' q = some (.tup (s.cs.map V.str)) → Q (.ref q) H'
theorem ok_chk (F : FnP K "checks_of" sChk f fd) : FnOk P w K mg base CX0 1 f fd ["statement"] (spChk K) := by
  refine F.ok scChk (fun vs H Q E h => ?_) (fun cdv A outer s H vs Q E hr h => ?_)
  · obtain ⟨x, r, rfl, _⟩ := h
    rfl
  refine ⟨_, PSs.nox (pss_cons (ps_if (pt_cmpR op_eq (pe_ix ix_tup (pv 0) pe_int (fun _ _ => rfl)) pe_str (nomark _)) (pss_one (ps_ret (pe_tup pa_nil))) pss_nil) (pss_one (ps_ret (pe_ix ix_tup (pv 0) (pe_un un_neg pe_int) (fun _ _ => rfl))))), ?_⟩
  obtain ⟨p, s, rfl, at_, ok, k⟩ := h
  unfold StAt at at_
  by_cases z : s.w = "insert"
  · rw [if_pos z] at at_
    refine ⟨_, rfl, _, _, _, _, rfl, rfl, SqT.of at_, at0, rfl, _, rfl, iteT ⟨(show 0 ≤ sizeLine by decide), fun e ne => k _ e (Same.new ne) ?_⟩⟩
    have e0 : s.cs = [] := by
      unfold Stp.ok at ok
      simp only [Bool.and_eq_true, Bool.or_eq_true, bne_iff_ne, ne_eq, List.isEmpty_iff] at ok
      rcases ok.2.2.2.2 with y | y
      · exact absurd z y
      · exact y
    rw [e0]
    exact upd_same
  · rw [if_neg z] at at_
    obtain ⟨q, h1, h2⟩ := at_
    refine ⟨_, rfl, _, _, _, _, rfl, rfl, SqT.of h1, at0, rfl, _, rfl, ?_⟩
    rw [show decide (V.str s.w = V.str "insert") = false by simp [z]]
    refine iteF ⟨_, rfl, 1, rfl, _, _, _, _, rfl, rfl, SqT.of h1, ?_, k H q (Same.refl H) h2⟩
    exact atL (xs := .str s.w :: s.mid.map V.str)
end
end K55

set_option maxRecDepth 100000
set_option maxHeartbeats 4000000
namespace K55
open PySem PySem.Spec PyProof.Rows L2 He VH RZ
theorem Stp.facts {s : Stp} (h : s.ok = true) : s.w ∈ heads ∧ s.mid.length = (plcs s.w).length ∧ (s.mid.zip (plcs s.w)).all (fun q => q.2.contains q.1) = true ∧ wdsOk s.cs cks = true ∧ (s.w = "insert" → s.cs = []) := by
  unfold Stp.ok at h
  simp only [Bool.and_eq_true, Bool.or_eq_true, bne_iff_ne, ne_eq, List.isEmpty_iff, decide_eq_true_eq] at h
  obtain ⟨h1, h2, h3, h4, h5⟩ := h
  exact ⟨List.contains_iff_mem.mp h1, h2, h3, h4, fun z => h5.elim (fun y => absurd z y) id⟩
theorem plcs_le (w : Str) : (plcs w).length ≤ 2 := by
  unfold plcs
  split
  · decide
  · split
    · decide
    · split <;> decide
theorem wds_mem {cs : List Str} (h : wdsOk cs cks = true) : ∀ z ∈ cs, z ∈ cks := by
  unfold wdsOk at h
  simp only [Bool.and_eq_true] at h
  exact fun z hz => List.contains_iff_mem.mp (List.all_eq_true.mp h.1 z hz)
theorem wds_le {cs : List Str} (h : wdsOk cs cks = true) : cs.length ≤ 3 := by
  unfold wdsOk at h
  simp only [Bool.and_eq_true, decide_eq_true_eq] at h
  rw [h.2]
  exact List.length_filter_le _ cks
theorem lay_cks : ∀ z ∈ cks, PyData.canLay0 (.str z) = true := by decide +kernel
def Ls : Nat → List (List Str)
  | 0 => [[]]
  | n + 1 => Ls n ++ (Ls n).map (· ++ [cks.getD n ""])
theorem Ls_ok : ∀ cs ∈ Ls 3, wdsOk cs cks = true := by decide +kernel
theorem Stp.kinds {s : Stp} (ok : s.ok = true) : (s.w = "insert" ∧ s.cs = [] ∧ ∃ m, s.mid = [m] ∧ m ∈ (["none", "now"] : List Str)) ∨ (s.w = "delete" ∧ s.mid = []) ∨ (s.w = "put" ∧ ∃ m, s.mid = [m] ∧ m ∈ (["none", "now", "read", "copy"] : List Str)) ∨
    (s.w = "set" ∧ ∃ m n, s.mid = [m, n] ∧ m ∈ (["keep", "input", "read"] : List Str) ∧ n ∈ (["keep", "none", "now", "read", "copy"] : List Str)) := by
  obtain ⟨f1, f2, f3, _, f5⟩ := Stp.facts ok
  obtain ⟨sw, mid, cs⟩ := s
  simp only at f1 f2 f3 f5 ⊢
  simp only [heads, List.mem_cons, List.not_mem_nil, or_false] at f1
  rcases f1 with rfl | rfl | rfl | rfl
  · refine .inr (.inr (.inr ⟨rfl, ?_⟩))
    match mid, f2, f3 with
    | [m, n], _, f3 =>
      simp only [plcs, if_true, List.zip_cons_cons, List.all_cons, Bool.and_eq_true] at f3
      exact ⟨m, n, rfl, List.contains_iff_mem.mp f3.1, List.contains_iff_mem.mp f3.2.1⟩
  · refine .inr (.inr (.inl ⟨rfl, ?_⟩))
    match mid, f2, f3 with
    | [m], _, f3 =>
      have e : plcs "put" = ([["none", "now", "read", "copy"]] : List (List Str)) := by decide
      rw [e] at f3
      simp only [List.zip_cons_cons, List.all_cons, Bool.and_eq_true] at f3
      exact ⟨m, rfl, List.contains_iff_mem.mp f3.1⟩
  · refine .inl ⟨rfl, f5 rfl, ?_⟩
    match mid, f2, f3 with
    | [m], _, f3 =>
      have e : plcs "insert" = ([["none", "now"]] : List (List Str)) := by decide
      rw [e] at f3
      simp only [List.zip_cons_cons, List.all_cons, Bool.and_eq_true] at f3
      exact ⟨m, rfl, List.contains_iff_mem.mp f3.1⟩
  · refine .inr (.inl ⟨rfl, ?_⟩)
    match mid, f2 with
    | [], _ => rfl
theorem cs_all {cs : List Str} (h : wdsOk cs cks = true) : cs ∈ Ls 3 := by
  unfold wdsOk at h
  simp only [Bool.and_eq_true, decide_eq_true_eq] at h
  have e := h.2
  cases h1 : cs.contains "missing" <;> cases h2 : cs.contains "same old" <;> cases h3 : cs.contains "same new" <;>
    (simp only [cks, List.filter_cons, h1, h2, h3, List.filter_nil, if_true, Bool.false_eq_true, if_false] at e; rw [e]; decide)
def allSt : List Stp :=
  (["none", "now"] : List Str).map (fun f => ⟨"insert", [f], []⟩) ++ ((Ls 3).map (fun c => ⟨"delete", [], c⟩) ++ ((Ls 3).flatMap (fun c => (["none", "now", "read", "copy"] : List Str).map fun f => ⟨"put", [f], c⟩) ++
    (Ls 3).flatMap (fun c => (["keep", "input", "read"] : List Str).flatMap fun m => (["keep", "none", "now", "read", "copy"] : List Str).map fun f => ⟨"set", [m, f], c⟩)))
theorem mem_all {s : Stp} (ok : s.ok = true) : s ∈ allSt := by
  have kd := Stp.kinds ok
  obtain ⟨_, _, _, f4, _⟩ := Stp.facts ok
  have hc := cs_all f4
  obtain ⟨sw, mid, cs⟩ := s
  simp only at kd hc
  unfold allSt
  rcases kd with ⟨rfl, rfl, m, rfl, hm⟩ | ⟨rfl, rfl⟩ | ⟨rfl, m, rfl, hm⟩ | ⟨rfl, m, n, rfl, hm, hn⟩
  · exact List.mem_append_left _ (List.mem_map.mpr ⟨m, hm, rfl⟩)
  · exact List.mem_append_right _ (List.mem_append_left _ (List.mem_map.mpr ⟨cs, hc, rfl⟩))
  · exact List.mem_append_right _ (List.mem_append_right _ (List.mem_append_left _ (List.mem_flatMap.mpr ⟨cs, hc, List.mem_map.mpr ⟨m, hm, rfl⟩⟩)))
  · exact List.mem_append_right _ (List.mem_append_right _ (List.mem_append_right _ (List.mem_flatMap.mpr ⟨cs, hc, List.mem_flatMap.mpr ⟨m, hm, List.mem_map.mpr ⟨n, hn, rfl⟩⟩⟩)))
/-- the statement's tree -/
def Stp.tr (s : Stp) : Tr := if s.w = "insert" then .tup (.str "insert" :: s.mid.map Tr.str) else .tup (.str s.w :: (s.mid.map Tr.str ++ [.tup (s.cs.map Tr.str)]))
theorem StAt.tr {K : PySem.W.Frag} {H : Hp} {p : Addr} {s : Stp} (h : StAt H p s) : At K H (.ref p) s.tr := by
  unfold StAt at h
  unfold Stp.tr
  by_cases z : s.w = "insert"
  · rw [if_pos z] at h
    rw [if_pos z]
    exact .tup (SqT.of h) (.cons .str (Ats.strs _))
  · rw [if_neg z] at h
    rw [if_neg z]
    obtain ⟨q, a, b⟩ := h
    exact .tup (SqT.of a) (.cons .str ((Ats.strs _).app (.cons (.tup (SqT.of b) (Ats.strs _)) .nil)))
theorem tr_all : ∀ s ∈ allSt, s.tr.fine = true ∧ isSt s.tr = true := by decide +kernel
theorem StAt.is {K : PySem.W.Frag} {H : Hp} {p : Addr} {s : Stp} (h : StAt H p s) (ok : s.ok = true) : IsSt K H (.ref p) true := ⟨_, h.tr, (tr_all s (mem_all ok)).1, (tr_all s (mem_all ok)).2⟩
def hasW (s : Stp) (ws : List Str) : Bool := (s.w :: (s.mid ++ s.cs)).any ws.contains
/-- an item of a statement: a text, or its checks at q -/
def itV (q : Addr) : Option Str → V
  | some z => .str z
  | none => .ref q
def itB (ws : List Str) : Option Str → Bool
  | some z => ws.contains z
  | none => false
def itD (cs : List Str) : Option Str → PyData
  | some z => .str z
  | none => .tuple (cs.map PyData.str)
theorem anyS {z : Str} {ws : List Str} : ((ws.map PyData.str).any fun y => PyData.eqv y (.str z)) = ws.contains z := by
  induction ws with
  | nil => rfl
  | cons w ws ih =>
    rw [List.map_cons, List.any_cons, ih, List.contains_cons]
    congr 1
    show (w == z) = (z == w)
    by_cases h : w = z
    · subst h
      rfl
    · exact (beq_false_of_ne h).trans (beq_false_of_ne (Ne.symm h)).symm
theorem anyT {cs ws : List Str} : ((ws.map PyData.str).any fun y => PyData.eqv y (.tuple (cs.map PyData.str))) = false := by
  induction ws with
  | nil => rfl
  | cons w ws ih => rw [List.map_cons, List.any_cons, ih]; rfl
theorem shpT {ws : List Str} (h : ∀ z ∈ ws, PyData.canLay0 (.str z) = true) : SeqAt.shaped (.tuple (ws.map PyData.str)) = true := by
  have z := shpAll ws h
  unfold SeqAt.shaped PyData.canLay0 PyData.depth
  rw [z.1, z.2]
  rfl
theorem dpT {K : PySem.W.Frag} {H : Hp} {p : Addr} {ws : List Str} (h : SqT K H p (ws.map V.str)) : Dp K H (.ref p) (.tuple (ws.map PyData.str)) := .tup h (dpS ws)
def spHas (K : PySem.W.Frag) : Sp := fun vs H Q E => ∃ (x : V) (pw : Addr) (ws : List Str), vs = [x, .ref pw] ∧ (∀ H, SqT K H pw (ws.map V.str)) ∧ (∀ z ∈ ws, PyData.canLay0 (.str z) = true) ∧
  ((IsSt K H x false ∧ Rn K E H) ∨ ∃ p s, x = .ref p ∧ StAt H p s ∧ s.ok = true ∧ (∀ z ∈ s.w :: s.mid, PyData.canLay0 (.str z) = true) ∧ ∀ H', Same H H' → Q (.bl (hasW s ws)) H')
theorem eqB {cs ws : List Str} (y : Option Str) : ((ws.map PyData.str).any fun u => PyData.eqv u (itD cs y)) = itB ws y := by
  cases y with
  | none => exact anyT
  | some z => exact anyS
theorem shpY {cs : List Str} (hc : ∀ z ∈ cs, PyData.canLay0 (.str z) = true) (y : Option Str) (h : ∀ z, y = some z → PyData.canLay0 (.str z) = true) : SeqAt.shaped (itD cs y) = true := by
  cases y with
  | none => exact shpT hc
  | some z =>
    unfold SeqAt.shaped itD
    rw [h z rfl]
    rfl
theorem mapS {q : Addr} {l : List Str} : (l.map some).map (itV q) = l.map V.str := by
  rw [List.map_map]
  rfl
theorem mapB {ws l : List Str} : ((l.map some).map (itB ws)).any id = l.any ws.contains := by
  rw [List.map_map, List.any_map]
  rfl
section
variable {P : Program} {w : World} {K : PySem.W.Frag} {mg : Str → Option Value} {base : Heap} {f : Addr} {fd fdI fdW fdS fdN fdC fdT : FuncData}
abbrev nHas : List Str := ["statement", "words", "word"]
theorem scHas : FnScope nHas ["statement", "words"] (defScope sHas) := ⟨rfl, rfl, rfl, by decide +kernel, rfl, by decide +kernel, by decide +kernel⟩
theorem passN {X : Cx} : Passes (L2.CX X.prog X.w) X (fun _ _ _ => False) := fun _ _ _ _ _ _ _ h => by
  obtain ⟨_, _, _, _, _, _, _, _, _, _, _, _, z⟩ := h
  exact z.elim
theorem ok_has (F : FnP K "has_word" sHas f fd) (T : Txt K mg w) (FT : FnIst K fdT) (FC : FnChk K fdC) (FN : FnNos K fdN) (FW : FnWrd K fdW) (FS : FnWds K fdS) : FnOk P w K mg base (L2.CX P w) 4 f fd ["statement", "words"] (spHas K) := by
  have GT : FnOk P w K mg base CX0 3 (ga K "is_statement") fdT ["value"] (spIst K) := ok_ist FT T FW FS
  have GC : FnOk P w K mg base CX0 1 (ga K "checks_of") fdC ["statement"] (spChk K) := ok_chk FC
  refine F.ok scHas (fun vs H Q E h => ?_) (fun cdv A outer s H vs Q E hr h => ?_)
  · obtain ⟨x, p, ws, rfl, _⟩ := h
    rfl
  have hu65 : (A.deeper (envOfC "has_word" (defScope sHas) s.heap.objs.size f cdv)).units + 65 < cLine := by
    have := hr.un
    omega
  refine ⟨_, pss_cons (ps_if (pt_not (pt_val (pe_call GT hr (by rfl) T.m_is_statement FT.kp (bIst FT) .nil pass0 (pa_cons (pv 0) pa_nil))))
      (pss_one (ps_raise rfl (takes_of rfl rfl rfl rfl) (pmk_oexN T.x_NoStatement.mkx.toOexC T.x_NoStatement.mkx.ini T.x_NoStatement.mkx.tyI (okNos FN) (hr.mono (by decide)) (bNos FN) pass0 (by rfl) T.m_NoStatement))) pss_nil)
    (pss_one (ps_ret (pe_callB (cr_any rfl) (by rfl) T.g_any boot_any (pa_cons (pe_lc (own := [("word", 2)]) (g := gName 2) (tt := tYes) (te := tOp (rInDT K) (tVar 2) (tVar 1)) rfl scHas.nd
        (pi_tup (pe_op op_catT (pv 0) (pe_call GC (hr.mono (by decide)) (by rfl) T.m_checks_of FC.kp (bChk FC) .nil pass0 (pa_cons (pv 0) pa_nil)))) (blkOk_by (N := nHas) (sc := defScope sHas) (by decide +kernel))
        (fun _ _ _ _ _ => pg_name (i := 2) scHas.nd rfl (Or.inl rfl)) (fun _ _ _ _ _ => pts_nil) (fun _ _ _ _ _ => pe_cmpR (op_inDT hu65) (pv 2) (pv 1) (by rfl))) pa_nil)))), ?_⟩
  obtain ⟨x, pw, ws, rfl, hw, lw, way⟩ := h
  rcases way with ⟨is, rn⟩ | ⟨p, s, rfl, at_, ok, lay, k⟩
  · refine ⟨_, rfl, _, false, rfl, is, fun H' S => ⟨false, rfl, iteT ?_⟩⟩
    exact read_nos (fun H'' s => rn H'' (S.trans s))
  · refine ⟨_, rfl, _, true, rfl, at_.is ok, fun H1 S1 => ⟨true, rfl, iteF ?_⟩⟩
    have tupS1 : ∀ b xs, H b = some (.tup xs) → H1 b = some (.tup xs) := fun b xs e => S1 _ _ e
    have at1 := at_.same tupS1
    refine ⟨_, rfl, _, rfl, p, s, rfl, at1, ok, fun H2 qc S2 hqc => ?_⟩
    have at2 := at1.same (fun b xs e => S2 _ _ e)
    have SH := S1.trans S2
    obtain ⟨f1, f2, f3, f4, f5⟩ := Stp.facts ok
    have l1 := plcs_le s.w
    have l2 := wds_le f4
    have big : 1000 < sizeLine := by decide
    have layC : ∀ z ∈ s.cs, PyData.canLay0 (.str z) = true := fun z hz => lay_cks z (wds_mem f4 z hz)
    unfold StAt at at2
    by_cases z : s.w = "insert"
    · rw [if_pos z] at at2
      have e0 := f5 z
      rw [e0] at hqc
      refine ⟨p, qc, _, _, rfl, rfl, SqT.of at2, SqT.of hqc, by simp, by simp; omega, fun _ => ?_, fun n => absurd rfl n⟩
      have e3 : s.cs = [] := e0
      let q0 : Addr := p
      let G : Hp := H2
      let its : List (Option Str) := (("insert" : Str) :: s.mid).map some
      have SG : Same H G := SH
      have hx : SqT K G p (its.map (itV q0)) := by
        have := SqT.of (K := K) at2
        show SqT K H2 p (((("insert" : Str) :: s.mid).map some).map (itV p))
        rw [mapS]
        exact this
      have hq0 : none ∈ its → G q0 = some (.tup (s.cs.map V.str)) := fun h => by
        obtain ⟨_, _, z⟩ := List.mem_map.mp h
        cases z
      have lits : its.length ≤ 1000 := by
        show ((("insert" : Str) :: s.mid).map some).length ≤ 1000
        rw [List.length_map, List.length_cons]
        omega
      have hlay : ∀ y, some y ∈ its → PyData.canLay0 (.str y) = true := fun y hy => by
        obtain ⟨u, hu, e⟩ := List.mem_map.mp hy
        cases e
        exact lay _ (z ▸ hu)
      have hany : (its.map (itB ws)).any id = hasW s ws := by
        show (((("insert" : Str) :: s.mid).map some).map (itB ws)).any id = hasW s ws
        rw [mapB]
        unfold hasW
        rw [e3, List.append_nil, z]
      refine ⟨_, rfl, ⟨_, hx⟩, fun D nD => ?_⟩
      refine lc_tup (K := K) (xs := its.map (itV q0)) (fun i G' => Same G G' ∧ G' D = some (.lst ((its.take i).map fun y => V.bl (itB ws y)))) ⟨Same.new nD, upd_same⟩ (fun i G' _ g => sqT_same' g.1 hx) (fun i x G' hx' g => ?_) (fun G' g => ?_)
      · obtain ⟨s2, h2⟩ := g
        rw [List.getElem?_map] at hx'
        obtain ⟨y, hy, rfl⟩ := Option.map_eq_some_iff.mp hx'
        have mem := List.mem_of_getElem? hy
        have li := (List.getElem?_eq_some_iff.mp hy).1
        refine ⟨rfl, _, rfl, _, rfl, itD s.cs y, ws.map PyData.str, ?_, dpT (hw _), shpY layC y (fun z e => hlay z (e ▸ mem)), shpT lw, _, h2, ?_, same_put s2 nD, ?_⟩
        · cases y with
          | none => exact dpT (SqT.of (s2 _ _ (hq0 mem)))
          | some z => exact .str z
        · rw [List.length_map, List.length_take]
          omega
        · rw [eqB, List.take_succ, hy]
          simp only [Option.toList, List.map_append]
          exact upd_same
      · obtain ⟨s2, h2⟩ := g
        rw [List.length_map, List.take_length] at h2
        refine ⟨D, its.map (itB ws), rfl, SqL.of (by rw [List.map_map]; exact h2), ?_⟩
        rw [hany]
        exact k G' (SG.trans s2)
    · rw [if_neg z] at at2
      obtain ⟨q0, a1, a2⟩ := at2
      refine ⟨p, qc, _, _, rfl, rfl, SqT.of a1, SqT.of hqc, by simp, by simp; omega, fun e => ?_, fun n p2 n2 => ?_⟩
      · have eI : (V.str s.w :: (s.mid.map V.str ++ [.ref q0])) = (((s.w :: s.mid).map some ++ [none]) : List (Option Str)).map (itV q0) := by
          rw [List.map_append, mapS]
          rfl
        have e0 : s.cs = [] := List.map_eq_nil_iff.mp e
        let its : List (Option Str) := ((s.w :: s.mid).map some ++ [none] : List (Option Str))
        let G : Hp := H2
        have SG : Same H G := SH
        have hx : SqT K G p (its.map (itV q0)) := by
          have := SqT.of (K := K) a1
          rw [eI] at this
          exact this
        have hq0 : none ∈ its → G q0 = some (.tup (s.cs.map V.str)) := fun _ => a2
        have lits : its.length ≤ 1000 := by
          show (((s.w :: s.mid).map some ++ [none] : List (Option Str))).length ≤ 1000
          simp only [List.length_append, List.length_map, List.length_cons, List.length_nil]
          omega
        have hlay : ∀ y, some y ∈ its → PyData.canLay0 (.str y) = true := fun y hy => by
          have hy : some y ∈ ((s.w :: s.mid).map some ++ [none] : List (Option Str)) := hy
          simp only [List.mem_append, List.mem_map, List.mem_singleton, reduceCtorEq, or_false, Option.some.injEq, exists_eq_right] at hy
          exact lay y hy
        have hany : (its.map (itB ws)).any id = hasW s ws := by
          show ((((s.w :: s.mid).map some ++ [none] : List (Option Str))).map (itB ws)).any id = hasW s ws
          rw [List.map_append, List.any_append, mapB]
          unfold hasW
          rw [e0, List.append_nil]
          exact Bool.or_false _
        refine ⟨_, rfl, ⟨_, hx⟩, fun D nD => ?_⟩
        refine lc_tup (K := K) (xs := its.map (itV q0)) (fun i G' => Same G G' ∧ G' D = some (.lst ((its.take i).map fun y => V.bl (itB ws y)))) ⟨Same.new nD, upd_same⟩ (fun i G' _ g => sqT_same' g.1 hx) (fun i x G' hx' g => ?_) (fun G' g => ?_)
        · obtain ⟨s2, h2⟩ := g
          rw [List.getElem?_map] at hx'
          obtain ⟨y, hy, rfl⟩ := Option.map_eq_some_iff.mp hx'
          have mem := List.mem_of_getElem? hy
          have li := (List.getElem?_eq_some_iff.mp hy).1
          refine ⟨rfl, _, rfl, _, rfl, itD s.cs y, ws.map PyData.str, ?_, dpT (hw _), shpY layC y (fun z e => hlay z (e ▸ mem)), shpT lw, _, h2, ?_, same_put s2 nD, ?_⟩
          · cases y with
            | none => exact dpT (SqT.of (s2 _ _ (hq0 mem)))
            | some z => exact .str z
          · rw [List.length_map, List.length_take]
            omega
          · rw [eqB, List.take_succ, hy]
            simp only [Option.toList, List.map_append]
            exact upd_same
        · obtain ⟨s2, h2⟩ := g
          rw [List.length_map, List.take_length] at h2
          refine ⟨D, its.map (itB ws), rfl, SqL.of (by rw [List.map_map]; exact h2), ?_⟩
          rw [hany]
          exact k G' (SG.trans s2)
      · have eI : (V.str s.w :: (s.mid.map V.str ++ [.ref q0])) = (((s.w :: s.mid).map some ++ [none]) : List (Option Str)).map (itV q0) := by
          rw [List.map_append, mapS]
          rfl
        let its : List (Option Str) := ((s.w :: s.mid).map some ++ [none] ++ s.cs.map some : List (Option Str))
        let G : Hp := upd H2 p2 (.tup (V.str s.w :: (s.mid.map V.str ++ [.ref q0]) ++ s.cs.map V.str))
        have SG : Same H G := SH.trans (Same.new n2)
        have hx : SqT K G p2 (its.map (itV q0)) := by
          have : SqT K G p2 (V.str s.w :: (s.mid.map V.str ++ [.ref q0]) ++ s.cs.map V.str) := SqT.of upd_same
          rw [eI, ← mapS (q := q0) (l := s.cs), ← List.map_append] at this
          exact this
        have hq0 : none ∈ its → G q0 = some (.tup (s.cs.map V.str)) := fun _ => (Same.new n2) _ _ a2
        have lits : its.length ≤ 1000 := by
          show (((s.w :: s.mid).map some ++ [none] ++ s.cs.map some : List (Option Str))).length ≤ 1000
          simp only [List.length_append, List.length_map, List.length_cons, List.length_nil]
          omega
        have hlay : ∀ y, some y ∈ its → PyData.canLay0 (.str y) = true := fun y hy => by
          have hy : some y ∈ ((s.w :: s.mid).map some ++ [none] ++ s.cs.map some : List (Option Str)) := hy
          simp only [List.mem_append, List.mem_map, List.mem_singleton, reduceCtorEq, or_false, Option.some.injEq, exists_eq_right] at hy
          rcases hy with hy | hy
          · exact lay y hy
          · exact layC y hy
        have hany : (its.map (itB ws)).any id = hasW s ws := by
          show ((((s.w :: s.mid).map some ++ [none] ++ s.cs.map some : List (Option Str))).map (itB ws)).any id = hasW s ws
          rw [List.map_append, List.any_append, List.map_append, List.any_append, mapB, mapB]
          unfold hasW
          rw [← List.cons_append, List.any_append]
          show (((s.w :: s.mid).any ws.contains || (false || false)) || s.cs.any ws.contains) = _
          rw [Bool.or_false, Bool.or_false]
        refine ⟨_, rfl, ⟨_, hx⟩, fun D nD => ?_⟩
        refine lc_tup (K := K) (xs := its.map (itV q0)) (fun i G' => Same G G' ∧ G' D = some (.lst ((its.take i).map fun y => V.bl (itB ws y)))) ⟨Same.new nD, upd_same⟩ (fun i G' _ g => sqT_same' g.1 hx) (fun i x G' hx' g => ?_) (fun G' g => ?_)
        · obtain ⟨s2, h2⟩ := g
          rw [List.getElem?_map] at hx'
          obtain ⟨y, hy, rfl⟩ := Option.map_eq_some_iff.mp hx'
          have mem := List.mem_of_getElem? hy
          have li := (List.getElem?_eq_some_iff.mp hy).1
          refine ⟨rfl, _, rfl, _, rfl, itD s.cs y, ws.map PyData.str, ?_, dpT (hw _), shpY layC y (fun z e => hlay z (e ▸ mem)), shpT lw, _, h2, ?_, same_put s2 nD, ?_⟩
          · cases y with
            | none => exact dpT (SqT.of (s2 _ _ (hq0 mem)))
            | some z => exact .str z
          · rw [List.length_map, List.length_take]
            omega
          · rw [eqB, List.take_succ, hy]
            simp only [Option.toList, List.map_append]
            exact upd_same
        · obtain ⟨s2, h2⟩ := g
          rw [List.length_map, List.take_length] at h2
          refine ⟨D, its.map (itB ws), rfl, SqL.of (by rw [List.map_map]; exact h2), ?_⟩
          rw [hany]
          exact k G' (SG.trans s2)
end
end K55

set_option maxRecDepth 100000
set_option maxHeartbeats 4000000
namespace K55
open PySem PySem.Spec PyProof.Rows L2 He VH RZ
abbrev sNre : Stmt := top 31
abbrev sNin : Stmt := top 32
abbrev FnNre (K : PySem.W.Frag) (fd : FuncData) : Prop := FnP K "needs_read" sNre (ga K "needs_read") fd
abbrev FnNin (K : PySem.W.Frag) (fd : FuncData) : Prop := FnP K "needs_input" sNin (ga K "needs_input") fd
theorem lay_pl : ∀ w ∈ heads, PyData.canLay0 (.str w) = true ∧ ∀ l ∈ plcs w, ∀ z ∈ l, PyData.canLay0 (.str z) = true := by decide +kernel
theorem Stp.lay {s : Stp} (ok : s.ok = true) : ∀ z ∈ s.w :: s.mid, PyData.canLay0 (.str z) = true := by
  obtain ⟨f1, f2, f3, _, _⟩ := Stp.facts ok
  obtain ⟨g1, g2⟩ := lay_pl s.w f1
  intro z hz
  rcases List.mem_cons.mp hz with rfl | hz
  · exact g1
  · obtain ⟨i, hi, rfl⟩ := List.mem_iff_getElem.mp hz
    have hi2 : i < (plcs s.w).length := by omega
    have m : (s.mid[i], (plcs s.w)[i]) ∈ s.mid.zip (plcs s.w) := by
      rw [List.mem_iff_getElem]
      exact ⟨i, by rw [List.length_zip]; omega, by simp⟩
    exact g2 _ (List.getElem_mem hi2) _ (List.contains_iff_mem.mp (List.all_eq_true.mp f3 _ m))
abbrev rdW : List Str := ["put", "read", "copy", "same old", "same new"]
abbrev tkW : List Str := ["insert", "input"]
def spNd (K : PySem.W.Frag) (ws : List Str) : Sp := fun vs H Q E => ∃ x : V, vs = [x] ∧ ((IsSt K H x false ∧ Rn K E H) ∨ ∃ p s, x = .ref p ∧ StAt H p s ∧ s.ok = true ∧ ∀ H', Same H H' → Q (.bl (hasW s ws)) H')
section
variable {P : Program} {w : World} {K : PySem.W.Frag} {mg : Str → Option Value} {base : Heap} {f : Addr} {fd fdI fdW fdS fdN fdC fdT fdH : FuncData}
theorem bNre (F : FnNre K fd) : Binds K fd ["statement"] [] := FunD.bindsN F fun _ _ _ _ _ _ us hl => match us, hl with | [_], _ => rfl
theorem bNin (F : FnNin K fd) : Binds K fd ["statement"] [] := FunD.bindsN F fun _ _ _ _ _ _ us hl => match us, hl with | [_], _ => rfl
theorem scNre : FnScope ["statement"] ["statement"] (defScope sNre) := ⟨rfl, rfl, rfl, by decide +kernel, rfl, by decide +kernel, by decide +kernel⟩
theorem scNin : FnScope ["statement"] ["statement"] (defScope sNin) := ⟨rfl, rfl, rfl, by decide +kernel, rfl, by decide +kernel, by decide +kernel⟩
theorem pass_c {X : Cx} {E : XK} (tk : Takes X (fun cls d _ H => E cls d H)) : Passes (L2.CX X.prog X.w) X E := passes_call tk (fun _ _ _ _ h => h)
theorem ok_nre (F : FnP K "needs_read" sNre f fd) (T : Txt K mg w) (FH : FnHas K fdH) (FT : FnIst K fdT) (FC : FnChk K fdC) (FN : FnNos K fdN) (FW : FnWrd K fdW) (FS : FnWds K fdS) : FnOk P w K mg base (L2.CX P w) 5 f fd ["statement"] (spNd K rdW) := by
  have GH : FnOk P w K mg base (L2.CX P w) 4 (ga K "has_word") fdH ["statement", "words"] (spHas K) := ok_has FH T FT FC FN FW FS
  refine F.ok scNre (fun vs H Q E h => ?_) (fun cdv A outer s H vs Q E hr h => ?_)
  · obtain ⟨x, rfl, _⟩ := h
    rfl
  refine ⟨_, pss_one (ps_ret (pe_call GH hr (by rfl) T.m_has_word FH.kp (bHas FH) .nil (pass_c (takes_of rfl rfl rfl rfl)) (pa_cons (pv 0) (pa_cons (pe_glob (v := .ref (ga K "READING")) (by rfl) T.m_READING rfl) pa_nil)))), ?_⟩
  obtain ⟨x, rfl, way⟩ := h
  refine ⟨_, rfl, x, _, rdW, rfl, T.t_READING, by decide +kernel, ?_⟩
  exact way.imp id fun ⟨p, s, e, a, ok, k⟩ => ⟨p, s, e, a, ok, Stp.lay ok, k⟩
theorem ok_nin (F : FnP K "needs_input" sNin f fd) (T : Txt K mg w) (FH : FnHas K fdH) (FT : FnIst K fdT) (FC : FnChk K fdC) (FN : FnNos K fdN) (FW : FnWrd K fdW) (FS : FnWds K fdS) : FnOk P w K mg base (L2.CX P w) 5 f fd ["statement"] (spNd K tkW) := by
  have GH : FnOk P w K mg base (L2.CX P w) 4 (ga K "has_word") fdH ["statement", "words"] (spHas K) := ok_has FH T FT FC FN FW FS
  refine F.ok scNin (fun vs H Q E h => ?_) (fun cdv A outer s H vs Q E hr h => ?_)
  · obtain ⟨x, rfl, _⟩ := h
    rfl
  refine ⟨_, pss_one (ps_ret (pe_call GH hr (by rfl) T.m_has_word FH.kp (bHas FH) .nil (pass_c (takes_of rfl rfl rfl rfl)) (pa_cons (pv 0) (pa_cons (pe_glob (v := .ref (ga K "TAKING")) (by rfl) T.m_TAKING rfl) pa_nil)))), ?_⟩
  obtain ⟨x, rfl, way⟩ := h
  refine ⟨_, rfl, x, _, tkW, rfl, T.t_TAKING, by decide +kernel, ?_⟩
  exact way.imp id fun ⟨p, s, e, a, ok, k⟩ => ⟨p, s, e, a, ok, Stp.lay ok, k⟩
end
end K55

set_option maxRecDepth 100000
set_option maxHeartbeats 4000000
namespace K55
open PySem PySem.Spec PyProof.Rows L2 He VH RZ
/-! steps of a writer -/
def rdT : Tr := .tup [.str "read"]
def isRd (t : Tr) : Bool := match t with
  | .tup [u] => Tr.wordT u ["read"]
  | _ => false
/-- a step: a read, a statement, or neither -/
inductive Sd where
  | read
  | st (s : Stp)
  | odd (t : Tr)
def Sd.tr : Sd → Tr
  | .read => rdT
  | .st s => s.tr
  | .odd t => t
def Sd.isR : Sd → Bool
  | .read => true
  | _ => false
def SdAt (K : PySem.W.Frag) (H : Hp) (x : V) : Sd → Prop
  | .read => At K H x rdT
  | .st s => ∃ p, x = .ref p ∧ StAt H p s ∧ s.ok = true
  | .odd t => At K H x t ∧ t.fine = true ∧ isRd t = false ∧ isSt t = false
theorem SdAt.same {K : PySem.W.Frag} {H H' : Hp} {x : V} {d : Sd} (h : SdAt K H x d) (s : Same H H') : SdAt K H' x d := by
  cases d with
  | read => exact At.same s h
  | st t =>
    obtain ⟨p, e, a, ok⟩ := h
    exact ⟨p, e, a.same fun b xs q => s _ _ q, ok⟩
  | odd t => exact ⟨At.same s h.1, h.2⟩
theorem SdAt.at {K : PySem.W.Frag} {H : Hp} {x : V} {d : Sd} (h : SdAt K H x d) : At K H x d.tr := by
  cases d with
  | read => exact h
  | st t =>
    obtain ⟨p, rfl, a, ok⟩ := h
    exact a.tr
  | odd t => exact h.1
theorem rd_all0 : ∀ s ∈ allSt, isRd s.tr = false := by decide +kernel
theorem SdAt.fine {K : PySem.W.Frag} {H : Hp} {x : V} {d : Sd} (h : SdAt K H x d) : d.tr.fine = true := by
  cases d with
  | read => decide +kernel
  | st t =>
    obtain ⟨p, rfl, a, ok⟩ := h
    exact (tr_all t (mem_all ok)).1
  | odd t => exact h.2.1
theorem SdAt.rd {K : PySem.W.Frag} {H : Hp} {x : V} {d : Sd} (h : SdAt K H x d) : isRd d.tr = d.isR := by
  cases d with
  | read => decide +kernel
  | st t =>
    obtain ⟨p, rfl, a, ok⟩ := h
    exact rd_all0 t (mem_all ok)
  | odd t => exact h.2.2.1
/-- steps -/
inductive SdL (K : PySem.W.Frag) (H : Hp) : List V → List Sd → Prop
  | nil : SdL K H [] []
  | cons {x : V} {d : Sd} {xs : List V} {ds : List Sd} (h : SdAt K H x d) (hs : SdL K H xs ds) : SdL K H (x :: xs) (d :: ds)
theorem SdL.same {K : PySem.W.Frag} {H H' : Hp} (s : Same H H') : ∀ {xs : List V} {ds : List Sd}, SdL K H xs ds → SdL K H' xs ds
  | _, _, .nil => .nil
  | _, _, .cons h hs => .cons (h.same s) (hs.same s)
theorem SdL.len {K : PySem.W.Frag} {H : Hp} : ∀ {xs : List V} {ds : List Sd}, SdL K H xs ds → xs.length = ds.length
  | _, _, .nil => rfl
  | _, _, .cons _ hs => congrArg Nat.succ hs.len
theorem SdL.get {K : PySem.W.Frag} {H : Hp} : ∀ {xs : List V} {ds : List Sd}, SdL K H xs ds → ∀ {i : Nat} {x : V}, xs[i]? = some x → ∃ d, ds[i]? = some d ∧ SdAt K H x d
  | _, _, .nil, i, _, h => by simp at h
  | _, _, .cons h hs, 0, x, e => by
    simp at e
    subst e
    exact ⟨_, rfl, h⟩
  | _, _, .cons h hs, i + 1, x, e => by
    obtain ⟨t, h1, h2⟩ := hs.get (i := i) (by simpa using e)
    exact ⟨t, by simpa using h1, h2⟩
theorem SdL.take {K : PySem.W.Frag} {H : Hp} : ∀ {xs : List V} {ds : List Sd}, SdL K H xs ds → ∀ n : Nat, SdL K H (xs.take n) (ds.take n)
  | _, _, .nil, n => by simpa using SdL.nil
  | _, _, .cons h hs, 0 => .nil
  | _, _, .cons h hs, n + 1 => .cons h (hs.take n)
/-- an own instance's fields are stored: all stands -/
theorem SqT.ins' {K : PySem.W.Frag} {H H' : Hp} {a C dx b : Addr} {fs : List (Str × V)} {xs : List V} (h : SqT K H b xs) (ha : H a = some (.ins C dx fs)) (e : ∀ c u, c ≠ a → H c = some u → H' c = some u) : SqT K H' b xs := by
  rcases h with (h | ⟨o, h⟩) | h
  · exact .inl (.inl (e _ _ (fun z => by rw [z, ha] at h; cases h) h))
  · exact .inl (.inr ⟨o, e _ _ (fun z => by rw [z, ha] at h; cases h) h⟩)
  · exact .inr h
theorem SqL.ins' {K : PySem.W.Frag} {H H' : Hp} {a C dx b : Addr} {fs : List (Str × V)} {xs : List V} (h : SqL K H b xs) (ha : H a = some (.ins C dx fs)) (e : ∀ c u, c ≠ a → H c = some u → H' c = some u) : SqL K H' b xs := by
  rcases h with (h | ⟨o, h⟩) | h
  · exact .inl (.inl (e _ _ (fun z => by rw [z, ha] at h; cases h) h))
  · exact .inl (.inr ⟨o, e _ _ (fun z => by rw [z, ha] at h; cases h) h⟩)
  · exact .inr h
mutual
theorem At.ins {K : PySem.W.Frag} {H H' : Hp} {a C dx : Addr} {fs : List (Str × V)} (ha : H a = some (.ins C dx fs)) (e : ∀ c u, c ≠ a → H c = some u → H' c = some u) : ∀ {x : V} {t : Tr}, At K H x t → At K H' x t
  | _, _, .non => .non
  | _, _, .bl => .bl
  | _, _, .int => .int
  | _, _, .str => .str
  | _, _, .dct h => .dct (e _ _ (fun z => by rw [z, ha] at h; cases h) h)
  | _, _, .tup h hs => .tup (SqT.ins' h ha e) (Ats.ins ha e hs)
  | _, _, .lst h hs => .lst (SqL.ins' h ha e) (Ats.ins ha e hs)
theorem Ats.ins {K : PySem.W.Frag} {H H' : Hp} {a C dx : Addr} {fs : List (Str × V)} (ha : H a = some (.ins C dx fs)) (e : ∀ c u, c ≠ a → H c = some u → H' c = some u) : ∀ {xs : List V} {ts : List Tr}, Ats K H xs ts → Ats K H' xs ts
  | _, _, .nil => .nil
  | _, _, .cons h hs => .cons (At.ins ha e h) (Ats.ins ha e hs)
end
theorem SdAt.ins {K : PySem.W.Frag} {H H' : Hp} {a C dx : Addr} {fs : List (Str × V)} {x : V} {d : Sd} (h : SdAt K H x d) (ha : H a = some (.ins C dx fs)) (e : ∀ c u, c ≠ a → H c = some u → H' c = some u) : SdAt K H' x d := by
  cases d with
  | read => exact At.ins ha e h
  | st t =>
    obtain ⟨p, q, b, ok⟩ := h
    exact ⟨p, q, b.same fun b xs q => e _ _ (fun z => by rw [z, ha] at q; cases q) q, ok⟩
  | odd t => exact ⟨At.ins ha e h.1, h.2⟩
theorem SdL.ins {K : PySem.W.Frag} {H H' : Hp} {a C dx : Addr} {fs : List (Str × V)} : ∀ {xs : List V} {ds : List Sd}, SdL K H xs ds → (ha : H a = some (.ins C dx fs)) → (e : ∀ c u, c ≠ a → H c = some u → H' c = some u) → SdL K H' xs ds
  | _, _, .nil, _, _ => .nil
  | _, _, .cons h hs, ha, e => .cons (h.ins ha e) (hs.ins ha e)
/-- the step at a place is right -/
def fits (ds : List Sd) (k : Nat) : Bool := match ds[k]? with
  | some .read => decide ((k : Int) < (ds.length : Int) - 1)
  | some (.st s) => (ds.take k).any Sd.isR || !hasW s rdW
  | some (.odd _) => false
  | none => false
abbrev sIrd : Stmt := top 42
abbrev sIbr : Stmt := top 43
abbrev sFit : Stmt := top 44
abbrev FnIrd (K : PySem.W.Frag) (fd : FuncData) : Prop := FnP K "is_read" sIrd (ga K "is_read") fd
abbrev FnIbr (K : PySem.W.Frag) (fd : FuncData) : Prop := FnP K "is_behind_read" sIbr (ga K "is_behind_read") fd
abbrev FnFit (K : PySem.W.Frag) (fd : FuncData) : Prop := FnP K "step_fits" sFit (ga K "step_fits") fd
theorem bIrd {K : PySem.W.Frag} {fd : FuncData} (F : FnIrd K fd) : Binds K fd ["step"] [] := FunD.bindsN F fun _ _ _ _ _ _ us hl => match us, hl with | [_], _ => rfl
theorem bIbr {K : PySem.W.Frag} {fd : FuncData} (F : FnIbr K fd) : Binds K fd ["steps", "at"] [] := FunD.bindsN F fun _ _ _ _ _ _ us hl => match us, hl with | [_, _], _ => rfl
theorem bFit {K : PySem.W.Frag} {fd : FuncData} (F : FnFit K fd) : Binds K fd ["steps", "at"] [] := FunD.bindsN F fun _ _ _ _ _ _ us hl => match us, hl with | [_, _], _ => rfl
def spIrd (K : PySem.W.Frag) : Sp := fun vs H Q _ => ∃ (x : V) (t : Tr), vs = [x] ∧ At K H x t ∧ ∀ H', Same H H' → Q (.bl (isRd t)) H'
def spIbr (K : PySem.W.Frag) : Sp := fun vs H Q _ => ∃ (p : Addr) (k : Nat) (xs : List V) (ds : List Sd), vs = [.ref p, .int k] ∧ SqT K H p xs ∧ SdL K H xs ds ∧ k < xs.length ∧ xs.length ≤ 1000 ∧ ∀ H', Same H H' → Q (.bl ((ds.take k).any Sd.isR)) H'
def spFit (K : PySem.W.Frag) : Sp := fun vs H Q _ => ∃ (p : Addr) (k : Nat) (xs : List V) (ds : List Sd), vs = [.ref p, .int k] ∧ SqT K H p xs ∧ SdL K H xs ds ∧ k < xs.length ∧ xs.length ≤ 1000 ∧ ∀ H', Same H H' → Q (.bl (fits ds k)) H'
section
variable {P : Program} {w : World} {K : PySem.W.Frag} {mg : Str → Option Value} {base : Heap} {f : Addr} {fd fdI fdW fdS fdN fdC fdT fdH fdR fdB fdE : FuncData}
theorem scIrd : FnScope ["step"] ["step"] (defScope sIrd) := ⟨rfl, rfl, rfl, by decide +kernel, rfl, by decide +kernel, by decide +kernel⟩
theorem ok_ird (F : FnP K "is_read" sIrd f fd) (T : Txt K mg w) (FW : FnWrd K fdW) : FnOk P w K mg base CX0 2 f fd ["step"] (spIrd K) := by
  have GW : FnOk P w K mg base CX0 1 (ga K "is_word") fdW ["value", "words"] (spWrd K) := ok_wrd FW T
  refine F.ok scIrd (fun vs H Q E h => ?_) (fun cdv A outer s H vs Q E hr h => ?_)
  · obtain ⟨x, t, rfl, _⟩ := h
    rfl
  refine ⟨_, PSs.nox (pss_one (ps_ret (pe_and (pe_callB call_isi (by rfl) T.g_isinstance boot_isinstance (pa_cons (pv 0) (pa_cons (pe_bltn (v := .ty "tuple") (by rfl) T.g_tuple boot_tuple rfl) pa_nil)))
    (pe_and (pe_cmpR op_eq (pe_callB call_len_seq (by rfl) T.g_len boot_len (pa_cons (pv 0) pa_nil)) pe_int (nomark _))
    (pe_one (pe_call GW hr (by rfl) T.m_is_word FW.kp (bWrd FW) .nil pass0 (pa_cons (pe_ix ix_tup (pv 0) pe_int (fun _ _ => rfl)) (pa_cons (pe_tup (pa_cons pe_str pa_nil)) pa_nil)))))))), ?_⟩
  obtain ⟨x, t, rfl, hx, k⟩ := h
  by_cases nt : ∃ us, t = .tup us
  case neg =>
    have e : isRd t = false := by
      unfold isRd
      split
      · exact absurd ⟨_, rfl⟩ nt
      · rfl
    rw [e] at k
    exact ⟨_, rfl, _, _, _, _, false, rfl, .ty "tuple", hx.ty, noTup (fun us e => nt ⟨us, e⟩) _, false, rfl, iteF (k H (Same.refl H))⟩
  obtain ⟨ts, rfl⟩ := nt
  cases hx with
  | tup h hs =>
    rename_i p xs
    have lx := hs.len
    refine ⟨_, rfl, _, _, _, _, true, rfl, .ty "tuple", sqT_ty h, kit_ty (by decide +kernel), true, rfl, iteT ?_⟩
    refine ⟨_, rfl, _, _, rfl, .inr h, rfl, _, rfl, ?_⟩
    by_cases l1 : ts.length = 1
    case neg =>
      have e : isRd (.tup ts) = false := by
        unfold isRd
        split
        · rename_i e
          cases e
          exact absurd rfl l1
        · rfl
      rw [e] at k
      rw [decide_eq_false (fun e => l1 (by have := V.int.inj e; omega))]
      exact iteF (k H (Same.refl H))
    rw [decide_eq_true (by rw [lx, l1]; rfl)]
    obtain ⟨u, rfl⟩ : ∃ u, ts = [u] := by
      match ts, l1 with
      | [u], _ => exact ⟨u, rfl⟩
    cases hs with
    | cons hu hn =>
      cases hn
      rename_i y
      refine iteT ⟨_, rfl, _, _, _, _, rfl, rfl, h, at0, (show 1 ≤ sizeLine by decide), fun q nq => ?_⟩
      have S := Same.new (o := .tup [.str "read"]) nq
      refine ⟨y, q, ["read"], rfl, SqT.of upd_same, ?_⟩
      by_cases ns : ∃ z, u = .str z
      · obtain ⟨z, rfl⟩ := ns
        cases hu
        exact .inl ⟨z, rfl, k _ S⟩
      · have e : isRd (.tup [u]) = false := by
          show Tr.wordT u ["read"] = false
          unfold Tr.wordT
          split
          · exact absurd ⟨_, rfl⟩ ns
          · rfl
        rw [e] at k
        exact .inr ⟨(hu.same S).noTx fun z e => ns ⟨z, e⟩, k _ S⟩
abbrev nIbr : List Str := ["steps", "at", "step"]
theorem scIbr : FnScope nIbr ["steps", "at"] (defScope sIbr) := ⟨rfl, rfl, rfl, by decide +kernel, rfl, by decide +kernel, by decide +kernel⟩
theorem cut_take {xs : List V} {k : Nat} (h : k ≤ xs.length) : cutV xs none (some (k : Int)) = xs.take k := by
  have e : HT.sIx xs.length xs.length (some (k : Int)) = k := by
    unfold HT.sIx
    simp only
    rw [if_neg (by omega)]
    omega
  unfold cutV
  rw [e]
  show (List.drop 0 xs).take (k - 0) = xs.take k
  simp
theorem not_whole {xs : List V} {k : Nat} {lo : Option Int} (h : k < xs.length) : ¬ (HT.sIx xs.length 0 lo = 0 ∧ HT.sIx xs.length xs.length (some (k : Int)) = xs.length) := fun z => by
  have e : HT.sIx xs.length xs.length (some (k : Int)) = k := by
    unfold HT.sIx
    simp only
    rw [if_neg (by omega)]
    omega
  rw [e] at z
  omega
theorem ok_ibr (F : FnP K "is_behind_read" sIbr f fd) (T : Txt K mg w) (FR : FnIrd K fdR) (FW : FnWrd K fdW) : FnOk P w K mg base CX0 3 f fd ["steps", "at"] (spIbr K) := by
  have GR : FnOk P w K mg base CX0 2 (ga K "is_read") fdR ["step"] (spIrd K) := ok_ird FR T FW
  refine F.ok scIbr (fun vs H Q E h => ?_) (fun cdv A outer s H vs Q E hr h => ?_)
  · obtain ⟨_, _, _, _, rfl, _⟩ := h
    rfl
  refine ⟨_, PSs.nox (pss_one (ps_ret (pe_callB (cr_any rfl) (by rfl) T.g_any boot_any (pa_cons (pe_lc (own := [("step", 2)]) (g := gName 2) (tt := tYes) (te := tCall (spIrd K) [] E0 (tCons (tVar 2) tNil)) rfl scIbr.nd
        (pi_tup (pe_slice sl_tup (pv 0) po_none (po_some (pv 1)))) (blkOk_by (N := nIbr) (sc := defScope sIbr) (by decide +kernel))
        (fun _ _ _ _ _ => pg_name (i := 2) scIbr.nd rfl (Or.inl rfl)) (fun _ _ _ _ _ => pts_nil) (fun _ _ _ _ _ => pe_call GR hr (by rfl) T.m_is_read FR.kp (bIrd FR) .nil pass0 (pa_cons (pv 2) pa_nil))) pa_nil)))), ?_⟩
  obtain ⟨p, n, xs, ds, rfl, hp, hd, ln, lx, k⟩ := h
  have big : 1000 < sizeLine := by decide
  refine ⟨_, rfl, _, rfl, _, rfl, p, xs, rfl, hp, not_whole ln, fun q nq => ?_⟩
  rw [cut_take (Nat.le_of_lt ln)]
  have S := Same.new (o := .tup (xs.take n)) nq
  have hq : upd H q (.tup (xs.take n)) q = some (.tup (xs.take n)) := upd_same
  have hdt := (hd.take n).same S
  have lt : (xs.take n).length ≤ 1000 := by rw [List.length_take]; omega
  generalize xs.take n = ys at S hq hdt lt ⊢
  generalize ds.take n = es at hdt k
  generalize upd H q (.tup ys) = G at S hq hdt ⊢
  refine ⟨_, rfl, ⟨_, SqT.of hq⟩, fun D nD => ?_⟩
  have ly := hdt.len
  refine lc_tup (K := K) (xs := ys) (fun i G' => Same G G' ∧ G' D = some (.lst (((es.take i).map Sd.isR).map V.bl))) ⟨Same.new nD, upd_same⟩ (fun i G' _ g => SqT.of (g.1 _ _ hq)) (fun i x G' hx g => ?_) (fun G' g => ?_)
  · obtain ⟨s2, h2⟩ := g
    obtain ⟨d, hd', at_⟩ := hdt.get hx
    have li := (List.getElem?_eq_some_iff.mp hx).1
    refine ⟨rfl, _, rfl, x, d.tr, rfl, (at_.same s2).at, fun G2 s3 => ?_⟩
    rw [at_.rd]
    refine ⟨_, s3 _ _ h2, ?_, same_put (s2.trans s3) nD, ?_⟩
    · rw [List.length_map, List.length_map, List.length_take]
      omega
    · rw [upd_same, List.take_succ, hd']
      simp
  · obtain ⟨s2, h2⟩ := g
    rw [ly, List.take_length] at h2
    refine ⟨D, _, rfl, SqL.of h2, ?_⟩
    have := k G' (S.trans s2)
    rw [List.any_map]
    exact this
theorem scFit : FnScope ["steps", "at"] ["steps", "at"] (defScope sFit) := ⟨rfl, rfl, rfl, by decide +kernel, rfl, by decide +kernel, by decide +kernel⟩
/-- all that the writer's defs call -/
structure PDefs (K : PySem.W.Frag) : Prop where
  wrd : ∃ fd, FnWrd K fd
  wds : ∃ fd, FnWds K fd
  ist : ∃ fd, FnIst K fd
  chk : ∃ fd, FnChk K fd
  has : ∃ fd, FnHas K fd
  nre : ∃ fd, FnNre K fd
  nin : ∃ fd, FnNin K fd
  nos : ∃ fd, FnNos K fd
  ird : ∃ fd, FnIrd K fd
  ibr : ∃ fd, FnIbr K fd
  fit : ∃ fd, FnFit K fd
theorem ok_fit (F : FnP K "step_fits" sFit f fd) (T : Txt K mg w) (D : PDefs K) : FnOk P w K mg base CX0 6 f fd ["steps", "at"] (spFit K) := by
  obtain ⟨dW, FW⟩ := D.wrd
  obtain ⟨dS, FS⟩ := D.wds
  obtain ⟨dI, FI⟩ := D.ist
  obtain ⟨dC, FC⟩ := D.chk
  obtain ⟨dH, FH⟩ := D.has
  obtain ⟨dN, FN⟩ := D.nre
  obtain ⟨dO, FO⟩ := D.nos
  obtain ⟨dR, FR⟩ := D.ird
  obtain ⟨dB, FB⟩ := D.ibr
  have GI : FnOk P w K mg base CX0 3 (ga K "is_statement") dI ["value"] (spIst K) := ok_ist FI T FW FS
  have GN : FnOk P w K mg base (L2.CX P w) 5 (ga K "needs_read") dN ["statement"] (spNd K rdW) := ok_nre FN T FH FI FC FO FW FS
  have GR : FnOk P w K mg base CX0 2 (ga K "is_read") dR ["step"] (spIrd K) := ok_ird FR T FW
  have GB : FnOk P w K mg base CX0 3 (ga K "is_behind_read") dB ["steps", "at"] (spIbr K) := ok_ibr FB T FR FW
  refine F.ok scFit (fun vs H Q E h => ?_) (fun cdv A outer s H vs Q E hr h => ?_)
  · obtain ⟨_, _, _, _, rfl, _⟩ := h
    rfl
  refine ⟨_, PSs.nox (pss_cons (ps_if (pt_val (pe_call GR (hr.mono (by decide)) (by rfl) T.m_is_read FR.kp (bIrd FR) .nil pass0 (pa_cons (pe_ix ix_tup (pv 0) (pv 1) (fun _ _ => rfl)) pa_nil)))
      (pss_one (ps_ret (pe_cmpR op_lt (pv 1) (pe_op op_sub (pe_callB call_len_seq (by rfl) T.g_len boot_len (pa_cons (pv 0) pa_nil)) pe_int) (nomark _)))) pss_nil)
    (pss_cons (ps_if (pt_not (pt_val (pe_call GI (hr.mono (by decide)) (by rfl) T.m_is_statement FI.kp (bIst FI) .nil pass0 (pa_cons (pe_ix ix_tup (pv 0) (pv 1) (fun _ _ => rfl)) pa_nil)))) (pss_one (ps_ret pe_bl)) pss_nil)
    (pss_one (ps_ret (pe_or (pe_call GB (hr.mono (by decide)) (by rfl) T.m_is_behind_read FB.kp (bIbr FB) .nil pass0 (pa_cons (pv 0) (pa_cons (pv 1) pa_nil)))
      (pe_one (pe_not (pe_call GN hr (by rfl) T.m_needs_read FN.kp (bNre FN) .nil passN (pa_cons (pe_ix ix_tup (pv 0) (pv 1) (fun _ _ => rfl)) pa_nil))))))))), ?_⟩
  obtain ⟨p, n, xs, ds, rfl, hp, hd, ln, lx, k⟩ := h
  have hx : xs[n]? = some xs[n] := List.getElem?_eq_getElem ln
  generalize xs[n] = x at hx
  obtain ⟨d, ed, at_⟩ := hd.get hx
  have at0' : atI xs (n : Int) = some x := atI_nat hx
  have ef : fits ds n = (match some d with
    | some .read => decide ((n : Int) < (ds.length : Int) - 1)
    | some (.st s) => (ds.take n).any Sd.isR || !hasW s rdW
    | some (.odd _) => false
    | none => false) := by
    unfold fits
    rw [ed]
  rw [ef] at k
  refine ⟨_, rfl, _, rfl, _, _, _, _, rfl, rfl, hp, at0', x, d.tr, rfl, at_.at, fun H1 S1 => ⟨isRd d.tr, rfl, ?_⟩⟩
  rw [at_.rd]
  cases d with
  | read =>
    refine iteT ⟨_, rfl, _, rfl, _, _, rfl, .inr (sqT_same' S1 hp), _, _, rfl, rfl, _, _, rfl, rfl, ?_⟩
    have := k H1 S1
    rw [← hd.len] at this
    exact this
  | odd t =>
    refine iteF ⟨_, rfl, _, rfl, _, _, _, _, rfl, rfl, sqT_same' S1 hp, at0', x, false, rfl, ⟨t, (at_.same S1).1, at_.2.1, at_.2.2.2⟩, fun H2 S2 => ⟨false, rfl, iteT (k H2 (S1.trans S2))⟩⟩
  | st s =>
    obtain ⟨q, rfl, sa, ok⟩ := at_
    have sa1 := sa.same fun b xs e => S1 _ _ e
    refine iteF ⟨_, rfl, _, rfl, _, _, _, _, rfl, rfl, sqT_same' S1 hp, at0', _, true, rfl, sa1.is ok, fun H2 S2 => ⟨true, rfl, iteF ?_⟩⟩
    have S02 := S1.trans S2
    have k := fun H' S => k H' S
    refine ⟨_, rfl, _, rfl, p, n, xs, ds, rfl, sqT_same' S02 hp, hd.same S02, ln, lx, fun H3 S3 => ⟨_, rfl, ?_⟩⟩
    cases rb : (ds.take n).any Sd.isR with
    | true =>
      have := k H3 (S02.trans S3)
      simp only [rb, Bool.true_or] at this
      exact iteT this
    | false =>
      refine iteF ⟨_, rfl, _, rfl, _, _, _, _, rfl, rfl, sqT_same' (S02.trans S3) hp, at0', _, rfl, .inr ⟨q, s, rfl, sa.same (fun b xs e => (S02.trans S3) _ _ e), ok, fun H4 S4 => ⟨_, rfl, ?_⟩⟩⟩
      have := k H4 ((S02.trans S3).trans S4)
      simp only [rb, Bool.false_or] at this
      exact this
end
end K55

set_option maxRecDepth 100000
set_option maxHeartbeats 4000000
namespace K55
open PySem PySem.Spec PyProof.Rows L2 He VH RZ
/-! a Writer made -/
abbrev sNoW : Stmt := inClass (top 4) 0
abbrev sWrI : Stmt := inClass (top 45) 0
abbrev FnNoW (K : PySem.W.Frag) (fd : FuncData) : Prop := FnM K "__init__" "NoWriter.__init__" 4 0 (ma K (ga K "NoWriter") "__init__") fd
abbrev FnWrI (K : PySem.W.Frag) (fd : FuncData) : Prop := FnM K "__init__" "Writer.__init__" 45 0 (ma K (ga K "Writer") "__init__") fd
/-- NoWriter(u, i) is raised out of H -/
def Rw (K : PySem.W.Frag) (E : XK) (H : Hp) (u : Str) (i : Int) : Prop := ∀ (d : Addr) (H' : Hp), H d = none → Same H H' → H' d = some (.xd [("index", .int i), ("part", .str u)]) → E (.ref (ga K "NoWriter")) (some d) H'
theorem Rw.same {K : PySem.W.Frag} {E : XK} {H H' : Hp} {u : Str} {i : Int} (h : Rw K E H u i) (s : Same H H') : Rw K E H' u i := fun d H2 n s2 e => h d H2 (s.free n) (s.trans s2) e
def isN (K : PySem.W.Frag) (H : Hp) (x : V) (r : Option Str) : Prop := (∃ z : Str, x = .str z ∧ z.length ≤ 1000 ∧ r = if nameB z = true then some z else none) ∨ (NoTx K H x ∧ r = none)
theorem isN.same {K : PySem.W.Frag} {H H' : Hp} {x : V} {r : Option Str} (h : isN K H x r) (s : Same H H') : isN K H' x r := h.imp id fun h => ⟨h.1.same s, h.2⟩
/-- the first step that is not right -/
def bad (ds : List Sd) : Option Nat := (List.range ds.length).find? fun k => !fits ds k
/-- what is refused first -/
def refuse (r0 : Option Str) (ds : List Sd) : Option (Str × Int) :=
  if r0 = none then some ("name", -1) else if ¬ (1 ≤ ds.length ∧ ds.length ≤ 3) then some ("steps", -1) else (bad ds).map fun k => ("steps", (k : Int))
def needs (ds : List Sd) : Bool := ds.any fun d => match d with
  | .st s => hasW s tkW
  | _ => false
/-- a Writer at a -/
def WrAt (K : PySem.W.Frag) (H : Hp) (a : Addr) (z : Str) (xs : List V) (b : Bool) : Prop := ∃ dx t : Addr, H a = some (.ins (ga K "Writer") dx [("name", .str z), ("steps", .ref t), ("needs_input", .bl b)]) ∧ H t = some (.tup xs)
def spWri (K : PySem.W.Frag) : Sp := fun vs H Q E => ∃ (a dx p : Addr) (x0 : V) (r0 : Option Str) (xs : List V) (ds : List Sd), vs = [.ref a, x0, .ref p] ∧ H a = some (.ins (ga K "Writer") dx []) ∧ H p = some (.tup xs) ∧
  isN K H x0 r0 ∧ SdL K H xs ds ∧ xs.length ≤ 1000 ∧ (∀ u i, refuse r0 ds = some (u, i) → Rw K E H u i) ∧
  (∀ z, r0 = some z → refuse r0 ds = none → ∀ H', But a H H' → WrAt K H' a z xs (needs ds) → Q .non H')
/-- .. as it is called -/
def spWr (K : PySem.W.Frag) : Sp := fun vs H Q E => ∃ ws rest, vs = ws ++ rest ∧ ws.length = 2 ∧ rest.length ≤ sizeLine ∧ ∀ p, H p = Option.none → spWri K (ws ++ [V.ref p]) (upd H p (.tup rest)) Q E
section
variable {P : Program} {w : World} {K : PySem.W.Frag} {mg : Str → Option Value} {base : Heap} {f : Addr} {fd fdN fdX fdF fdR fdI : FuncData}
theorem scNoW : FnScope ["self", "part", "index"] ["self", "part", "index"] (defScope sNoW) := ⟨rfl, rfl, rfl, by decide +kernel, rfl, by decide +kernel, by decide +kernel⟩
theorem okNoW (F : FnM K "__init__" "NoWriter.__init__" 4 0 f fd) : FnOk P w K mg base CX0 1 f fd ["self", "part", "index"] (spIni K ["part", "index"]) := by
  refine F.ok scNoW (fun vs H Q E h => ?_) (fun cdv A outer s H vs Q E hr h => ?_)
  · obtain ⟨a, C, v, u, rfl, _⟩ := ini2 h
    rfl
  refine ⟨_, PSs.nox (pss_cons (ps_ost (pv 0) (pv 1)) (pss_one (ps_ost (pv 0) (pv 2)))), ?_⟩
  obtain ⟨a, C, v, u, rfl, T, no, no2, ha, k⟩ := ini2 h
  refine ⟨_, rfl, _, rfl, a, C, rfl, T, no, .inl ⟨ha, fun dx n ne => ?_⟩⟩
  exact ⟨_, rfl, _, rfl, a, C, rfl, T, no2, .inr ⟨dx, _, upd_same, (upd_ne ne).trans upd_same, (show 1 ≤ 900 by decide), k dx n ne⟩⟩
theorem bNoW (F : FnM K "__init__" "NoWriter.__init__" 4 0 f fd) : Binds K fd ["self", "part", "index"] [] := FunD.bindsN F fun _ _ _ _ _ _ us hl => match us, hl with | [_, _, _], _ => rfl
abbrev nWrI : List Str := ["self", "name", "steps", "at", "step"]
theorem scWrI : FnScope nWrI ["self", "name", "steps"] (defScope sWrI) := ⟨rfl, rfl, rfl, by decide +kernel, rfl, by decide +kernel, by decide +kernel⟩
theorem body_wri (T : Txt K mg w) (D : PDefs K) (fns : Fns K) {cdv : Value} {A : Around} {outer : List Env} {s : Shared} {H : Hp} {vs : List V} {Q : VK} {E : XK} (hr : Room 6 (A.deeper (envOfC "Writer.__init__" (defScope sWrI) s.heap.objs.size f cdv))) (h : spWri K vs H Q E) :
    ∃ t, PSs (cxOf (L2.CX P w) P w K mg base nWrI "Writer.__init__" (defScope sWrI) f cdv A outer s H E) (defBody sWrI) t ∧ t { nx := fun _ H' => Q .non H', rt := Q } (L2.start nWrI vs) H := by
  obtain ⟨dN, FN⟩ := fns.f_is_name
  obtain ⟨dX, FX⟩ := fns.f_NoWriter_init
  obtain ⟨dW, FW⟩ := D.wrd
  obtain ⟨dS, FS⟩ := D.wds
  obtain ⟨dI, FI⟩ := D.ist
  obtain ⟨dC, FC⟩ := D.chk
  obtain ⟨dH, FH⟩ := D.has
  obtain ⟨dO, FO⟩ := D.nos
  obtain ⟨dM, FM⟩ := D.nin
  obtain ⟨dR, FR⟩ := D.ird
  obtain ⟨dF, FF⟩ := D.fit
  have GN : FnOk P w K mg base CX0 1 (ga K "is_name") dN ["value"] (spNam K) := ok_nam FN T
  have GF : FnOk P w K mg base CX0 6 (ga K "step_fits") dF ["steps", "at"] (spFit K) := ok_fit FF T D
  have GR : FnOk P w K mg base CX0 2 (ga K "is_read") dR ["step"] (spIrd K) := ok_ird FR T FW
  have GM : FnOk P w K mg base (L2.CX P w) 5 (ga K "needs_input") dM ["statement"] (spNd K tkW) := ok_nin FM T FH FI FC FO FW FS
  have rN : ∀ {p1 p2 p3 p4 p5 p6 : Pos} {j j2 : Nat} {wd : Str}, PS (cxOf (L2.CX P w) P w K mg base nWrI "Writer.__init__" (defScope sWrI) f cdv A outer s H E) (.Raise (some (.Call (.Name "NoWriter" p1) [.Constant (.str wd) j p2, .UnaryOp .USub (.Constant (.int 1) j2 p5) p6] [] p3)) none p4) _ := fun {p1 p2 p3 p4 p5 p6 j j2 wd} =>
    ps_raise rfl (takes_of rfl rfl rfl rfl) (pmk_oex T.x_NoWriter.mkx.toOexC T.x_NoWriter.mkx.ini T.x_NoWriter.mkx.tyI (okNoW FX) (hr.mono (by decide)) (bNoW FX) .nil pass0 (by rfl) T.m_NoWriter (pa_cons pe_str (pa_cons (pe_un un_neg pe_int) pa_nil)))
  refine ⟨_, pss_cons (ps_if (pt_not (pt_val (pe_call GN (hr.mono (by decide)) (by rfl) T.m_is_name FN.kp (bNam FN) .nil pass0 (pa_cons (pv 1) pa_nil)))) (pss_one rN) pss_nil)
    (pss_cons (ps_if (pt_not (pt_chain op_le op_le pe_int (pe_callB call_len_seq (by rfl) T.g_len boot_len (pa_cons (pv 2) pa_nil)) pe_int)) (pss_one rN) pss_nil)
    (pss_cons (ps_for (passes_of rfl) rfl (pi_range1 rfl T.g_range (pa_cons (pe_callB call_len_seq (by rfl) T.g_len boot_len (pa_cons (pv 2) pa_nil)) pa_nil)) (pg_name (i := 3) scWrI.nd rfl (Or.inl rfl))
        (pss_one (ps_if (pt_not (pt_val (pe_call GF hr (by rfl) T.m_step_fits FF.kp (bFit FF) .nil pass0 (pa_cons (pv 2) (pa_cons (pv 3) pa_nil))))) (pss_one
          (ps_raise rfl (takes_of rfl rfl rfl rfl) (pmk_oex T.x_NoWriter.mkx.toOexC T.x_NoWriter.mkx.ini T.x_NoWriter.mkx.tyI (okNoW FX) (hr.mono (by decide)) (bNoW FX) .nil pass0 (by rfl) T.m_NoWriter (pa_cons pe_str (pa_cons (pv 3) pa_nil))))) pss_nil)))
    (pss_cons (ps_fld (pv 0) (pv 1) rfl)
    (pss_cons (ps_fld (pv 0) (pv 2) rfl)
    (pss_one (ps_fld (pv 0) (pe_callB (cr_any rfl) (by rfl) T.g_any boot_any (pa_cons (pe_lc (own := [("step", 4)]) (g := gName 4) (tt := tNot (tB (tCall (spIrd K) [] E0 (tCons (tVar 4) tNil)))) (te := tCall (spNd K tkW) [] (fun _ _ _ => False) (tCons (tVar 4) tNil)) rfl scWrI.nd
        (pi_tup (pv 2)) (blkOk_by (N := nWrI) (sc := defScope sWrI) (by decide +kernel))
        (fun _ _ _ _ _ => pg_name (i := 4) scWrI.nd rfl (Or.inl rfl)) (fun _ _ _ _ _ => pts_one (pt_not (pt_val (pe_call GR (hr.mono (by decide)) (by rfl) T.m_is_read FR.kp (bIrd FR) .nil pass0 (pa_cons (pv 4) pa_nil)))))
        (fun _ _ _ _ _ => pe_call GM (hr.mono (by decide)) (by rfl) T.m_needs_input FM.kp (bNin FM) .nil passN (pa_cons (pv 4) pa_nil))) pa_nil)) rfl)))))), ?_⟩
  obtain ⟨a, dx, p, x0, r0, xs, ds, rfl, ha, hp, h0, hd, lx, rz, k⟩ := h
  have ld := hd.len
  have go : ∀ {G : Hp} {wd : Str} {i : Int}, Rw K E G wd i → ([V.str wd, V.int i].length ≤ 1000 ∧ ∀ p, G p = none → spIni K ["part", "index"] [.ref p, .str wd, .int i] (upd G p (exo p (ga K "NoWriter") none)) (fun v H2 => v = .non ∧ ∃ (d : Addr) (fs : List (Str × V)), H2 p = some (exo p (ga K "NoWriter") (some d)) ∧ H2 d = some (exd d fs) ∧ G d = none ∧ E (.ref (ga K "NoWriter")) (some d) (upd (del H2 p) d (.xd fs))) (fun _ _ _ => False)) :=
    fun {G wd i} z => ⟨(show 2 ≤ 1000 by decide), fun p n => read_raise T.x_NoWriter [.str wd, .int i] n rfl rfl (by simp) rfl fun d H' nd s e => z d H' nd s e⟩
  have rw_ : ∀ {G : Hp} {u : Str} {i : Int}, Same H G → refuse r0 ds = some (u, i) → Rw K E G u i := fun S e => (rz _ _ e).same S
  -- the name
  rcases h0 with ⟨z, rfl, lz, e0⟩ | ⟨no, e0⟩
  case inr => exact ⟨_, rfl, _, rfl, .inr ⟨no, fun H1 S1 => ⟨false, rfl, iteT ⟨1, rfl, go (rw_ S1 (by unfold refuse; rw [if_pos e0]))⟩⟩⟩⟩
  cases nb : nameB z
  case false =>
    rw [nb] at e0
    have e0 : r0 = none := e0
    exact ⟨_, rfl, _, rfl, .inl ⟨z, rfl, lz, fun H1 S1 => ⟨nameB z, rfl, by rw [nb]; exact iteT ⟨1, rfl, go (rw_ S1 (by unfold refuse; rw [if_pos e0]))⟩⟩⟩⟩
  rw [nb] at e0
  have e0 : r0 = some z := e0
  have n0 : ¬ r0 = none := by rw [e0]; simp
  refine ⟨_, rfl, _, rfl, .inl ⟨z, rfl, lz, fun H1 S1 => ⟨nameB z, rfl, ?_⟩⟩⟩
  rw [nb]
  refine iteF ?_
  have big : 1000 < sizeLine := by decide
  -- the number of steps
  refine ⟨_, rfl, p, _, rfl, .inr (SqT.of (S1 _ _ hp)), _, _, rfl, rfl, ?_⟩
  refine ⟨_, rfl, ?_⟩
  have toNum : ¬ (1 ≤ ds.length ∧ ds.length ≤ 3) → refuse r0 ds = some (("steps" : Str), (-1 : Int)) := fun q => by unfold refuse; rw [if_neg n0, if_pos q]
  cases l1 : decide ((1 : Int) ≤ (xs.length : Nat)) with
  | false =>
    have := of_decide_eq_false l1
    exact iteF ⟨false, rfl, iteT ⟨1, rfl, go (rw_ S1 (toNum (by omega)))⟩⟩
  | true =>
  have l1 := of_decide_eq_true l1
  refine iteT ⟨_, _, rfl, rfl, _, rfl, ?_⟩
  cases l2 : decide (((xs.length : Nat) : Int) ≤ 3) with
  | false =>
    have := of_decide_eq_false l2
    exact iteT ⟨1, rfl, go (rw_ S1 (toNum (by omega)))⟩
  | true =>
  have l2 := of_decide_eq_true l2
  refine iteF ?_
  -- each step
  have hpp := S1 _ _ hp
  refine ⟨_, rfl, p, _, rfl, .inr (SqT.of hpp), _, rfl, by omega, by omega, ?_⟩
  have el : ((xs.length : Nat) : Int).toNat = xs.length := by omega
  rw [el]
  refine for_range (lo := 0) (n := xs.length) (fun i σ G => (∃ v3 v4, σ = [some (.ref a), some (.str z), some (.ref p), v3, v4]) ∧ Same H1 G ∧ ∀ m, m < i → fits ds m = true) ⟨⟨_, _, rfl⟩, Same.refl _, fun m hm => absurd hm (Nat.not_lt_zero m)⟩ (fun i σ G li g => ?_) (fun σ G g => ?_)
  · obtain ⟨⟨v3, v4, rfl⟩, sG, ok⟩ := g
    have S1G := S1.trans sG
    refine ⟨_, rfl, _, rfl, p, i, xs, ds, by rw [Int.zero_add]; rfl, SqT.of (S1G _ _ hp), hd.same S1G, li, lx, fun G2 S2 => ⟨_, rfl, ?_⟩⟩
    cases fi : fits ds i with
    | false =>
      have e : bad ds = some i := by
        unfold bad
        rw [List.find?_range_eq_some]
        refine ⟨by rw [fi]; rfl, List.mem_range.mpr (by omega), fun m hm => ?_⟩
        rw [ok m hm]
        rfl
      have er : refuse r0 ds = some (("steps" : Str), (i : Int)) := by
        unfold refuse
        rw [if_neg n0, if_neg (by omega), e]
        rfl
      refine iteT ⟨_, rfl, ?_⟩
      rw [Int.zero_add]
      exact go (rw_ (S1G.trans S2) er)
    | true =>
      refine iteF ⟨⟨_, _, rfl⟩, sG.trans S2, fun m hm => ?_⟩
      by_cases q : m = i
      · rw [q]; exact fi
      · exact ok m (by omega)
  · obtain ⟨⟨v3, v4, rfl⟩, sG, ok⟩ := g
    have e : bad ds = none := by
      unfold bad
      rw [List.find?_eq_none]
      intro m hm
      rw [ok m (by have := List.mem_range.mp hm; omega)]
      simp
    have er : refuse r0 ds = none := by
      unfold refuse
      rw [if_neg n0, if_neg (by omega), e]
      rfl
    have S1G := S1.trans sG
    have kk := k z e0 er
    clear rz rw_ go toNum
    have haG := S1G _ _ ha
    have hpG := S1G _ _ hp
    have hdG := hd.same S1G
    have B0 : But a H G := But.of S1G
    have npa : p ≠ a := fun e => by
      rw [e, ha] at hp
      cases hp
    clear S1 hpp sG S1G hd ha hp
    -- name, steps
    refine ⟨_, rfl, _, rfl, a, _, dx, _, rfl, haG, T.c_Writer, T.n_Writer_name, (show 0 < 1000 by decide), ?_⟩
    refine ⟨_, rfl, _, rfl, a, _, dx, _, rfl, upd_same, T.c_Writer, T.n_Writer_steps, (show 1 < 1000 by decide), ?_⟩
    have B2 := (B0.trans (But.upd (a := a) (H := G) (o := .ins (ga K "Writer") dx [("name", .str z)]))).trans (But.upd (a := a) (o := .ins (ga K "Writer") dx [("name", .str z), ("steps", .ref p)]))
    have ha2 : upd (upd G a (.ins (ga K "Writer") dx [("name", .str z)])) a (.ins (ga K "Writer") dx [("name", .str z), ("steps", .ref p)]) a = some (.ins (ga K "Writer") dx [("name", .str z), ("steps", .ref p)]) := upd_same
    have hp2 : upd (upd G a (.ins (ga K "Writer") dx [("name", .str z)])) a (.ins (ga K "Writer") dx [("name", .str z), ("steps", .ref p)]) p = some (.tup xs) := by
      rw [upd_ne npa, upd_ne npa]
      exact hpG
    have hd2 : SdL K (upd (upd G a (.ins (ga K "Writer") dx [("name", .str z)])) a (.ins (ga K "Writer") dx [("name", .str z), ("steps", .ref p)])) xs ds := (hdG.ins haG (fun c u n e => (upd_ne n).trans e)).ins upd_same (fun c u n e => (upd_ne n).trans e)
    -- needs_input
    refine ⟨_, rfl, p, rfl, ⟨_, SqT.of hp2⟩, fun D nD => ?_⟩
    have fit : ∀ (m : Nat) (d : Sd), ds[m]? = some d → d = .read ∨ ∃ s, d = .st s := fun m d e => by
      have lm := (List.getElem?_eq_some_iff.mp e).1
      have := ok m (by omega)
      unfold fits at this
      rw [e] at this
      cases d with
      | read => exact .inl rfl
      | st s => exact .inr ⟨s, rfl⟩
      | odd t => cases this
    let nd : Sd → Option Bool := fun d => match d with
      | .st s => some (hasW s tkW)
      | _ => none
    refine lc_tup (K := K) (xs := xs) (fun i G' => Same (upd (upd G a (.ins (ga K "Writer") dx [("name", .str z)])) a (.ins (ga K "Writer") dx [("name", .str z), ("steps", .ref p)])) G' ∧ G' D = some (.lst (((ds.take i).filterMap nd).map V.bl))) ⟨Same.new nD, upd_same⟩ (fun i G' _ g => SqT.of (g.1 _ _ hp2)) (fun i x G' hx g => ?_) (fun G' g => ?_)
    · obtain ⟨s2, h2⟩ := g
      obtain ⟨d, hd', at_⟩ := hd2.get hx
      have li := (List.getElem?_eq_some_iff.mp hx).1
      refine ⟨rfl, _, rfl, x, d.tr, rfl, (at_.same s2).at, fun G3 s3 => ⟨_, rfl, ?_⟩⟩
      rw [at_.rd]
      rcases fit i d hd' with rfl | ⟨s, rfl⟩
      · refine iteF ⟨s2.trans s3, ?_⟩
        rw [s3 _ _ h2, List.take_succ, hd']
        simp [nd]
      · obtain ⟨q, rfl, sa, sok⟩ := at_
        refine iteT ⟨_, rfl, _, rfl, .inr ⟨q, s, rfl, sa.same (fun b xs e => (s2.trans s3) _ _ e), sok, fun G4 s4 => ?_⟩⟩
        refine ⟨_, s4 _ _ (s3 _ _ h2), ?_, same_put ((s2.trans s3).trans s4) nD, ?_⟩
        · have := List.length_filterMap_le nd (ds.take i)
          rw [List.length_take] at this
          rw [List.length_map]
          omega
        · rw [upd_same, List.take_succ, hd']
          simp [nd]
    · obtain ⟨s2, h2⟩ := g
      rw [ld, List.take_length] at h2
      refine ⟨D, _, rfl, SqL.of h2, ?_⟩
      have en : ((ds.filterMap nd).any fun x => x) = needs ds := by
        unfold needs
        rw [List.any_filterMap]
        congr 1
        funext d
        cases d <;> rfl
      refine ⟨_, rfl, a, _, dx, _, rfl, s2 _ _ ha2, T.c_Writer, T.n_Writer_needs_input, (show 2 < 1000 by decide), ?_⟩
      refine kk _ ((B2.trans (But.of s2)).trans But.upd) ⟨dx, p, ?_, (upd_ne npa).trans (s2 _ _ hp2)⟩
      rw [← en]
      exact upd_same
theorem ok_wri (F : FnWrI K fd) (T : Txt K mg w) (D : PDefs K) (fns : Fns K) : FnR P w K mg base (L2.CX P w) 7 (ma K (ga K "Writer") "__init__") (spWr K) := by
  obtain ⟨oc, od, dV, kV, doc, pm, an, cdv, ct, osl, rfl, lk, hcd, hD, hK⟩ := F.ex
  rcases hD with ⟨_, rfl⟩ | ⟨e, _⟩
  · exact StX.fn_star (ps := ["self", "name"]) (pv := "steps") lk hcd scWrI StX.cxUp (StX.bind_star2 (B := fun l => bindArgs (PySem.W.fnOf "__init__" "Writer.__init__" (defArgs (inClass (top 45) 0)) (defBody (inClass (top 45) 0)) (defScope (inClass (top 45) 0)) .none kV doc pm an cdv ct) ⟨l, []⟩) (p1 := "self") (p2 := "name") (pv := "steps") (fun _ _ => rfl) (fun _ _ _ _ => rfl)) fun A outer s H vs Q E hr h => body_wri T D fns hr h
  · exact absurd rfl e
end
end K55

set_option maxRecDepth 100000
set_option maxHeartbeats 4000000
namespace K55
open PySem PySem.Spec PyProof.Rows L2 He VH
/-! a Phase made -/
abbrev sNoP : Stmt := inClass (top 6) 0
abbrev sPhI : Stmt := inClass (top 48) 0
abbrev FnNoP (K : PySem.W.Frag) (fd : FuncData) : Prop := FnM K "__init__" "NoPhase.__init__" 6 0 (ma K (ga K "NoPhase") "__init__") fd
/-- c(w) is raised out of H -/
def Rz (K : PySem.W.Frag) (E : XK) (H : Hp) (c w : Str) : Prop := ∀ (d : Addr) (H' : Hp), H d = none → Same H H' → H' d = some (.xd [("part", .str w)]) → E (.ref (ga K c)) (some d) H'
theorem Rz.same {K : PySem.W.Frag} {E : XK} {H H' : Hp} {c w : Str} (h : Rz K E H c w) (s : Same H H') : Rz K E H' c w := fun d H2 n s2 e => h d H2 (s.free n) (s.trans s2) e
/-- no truth -/
def NoBl (K : PySem.W.Frag) (H : Hp) (x : V) : Prop := ∀ H', Same H H' → ∃ t, TyX K H' x t ∧ PySem.W.kitOne K t (.type "bool") = some false
theorem NoBl.same {K : PySem.W.Frag} {H H' : Hp} {x : V} (h : NoBl K H x) (s : Same H H') : NoBl K H' x := fun H2 s2 => h H2 (s.trans s2)
def isL (K : PySem.W.Frag) (H : Hp) (ok : List V → Bool) (x : V) (r : Option (List V)) : Prop := (∃ (a : Addr) (xs : List V), x = .ref a ∧ SqV K H a xs ∧ Told K H xs ∧ xs.length ≤ 1000 ∧ r = if ok xs = true then some xs else none) ∨ (NoSq K H x ∧ r = none)
def isB (K : PySem.W.Frag) (H : Hp) (x : V) (r : Option Bool) : Prop := (∃ b, x = .bl b ∧ r = some b) ∨ (NoBl K H x ∧ r = none)
theorem isL.same {K : PySem.W.Frag} {H H' : Hp} {ok : List V → Bool} {x : V} {r : Option (List V)} (h : isL K H ok x r) (s : Same H H') : isL K H' ok x r :=
  h.imp (fun ⟨a, xs, e, v, t, l, q⟩ => ⟨a, xs, e, v.same s, t.same s, l, q⟩) fun h => ⟨h.1.same s, h.2⟩
theorem isB.same {K : PySem.W.Frag} {H H' : Hp} {x : V} {r : Option Bool} (h : isB K H x r) (s : Same H H') : isB K H' x r := h.imp id fun h => ⟨h.1.same s, h.2⟩
abbrev prW : List Str := ["right", "mild", "kept", "once"]
abbrev waW : List Str := ["done", "drained"]
/-- the part that is refused first -/
def wrong (r0 : Option Str) (r1 : Option (List V)) (r2 : Option Bool) (r3 r4 : Option (List V)) : Option Str :=
  if r0 = none then some "name" else if r1 = none then some "writers" else if r2 = none then some "fills" else if r3 = none then some "promises" else if r4 = none then some "waits" else none
/-- a Phase at a -/
def PhAt (K : PySem.W.Frag) (H : Hp) (a : Addr) (z : Str) (ws : List V) (b : Bool) (ps qs : List V) : Prop := ∃ dx t1 t2 t3 : Addr, H a = some (.ins (ga K "Phase") dx [("name", .str z), ("writers", .ref t1), ("fills", .bl b), ("promises", .ref t2), ("waits", .ref t3)]) ∧
  SqT K H t1 ws ∧ SqT K H t2 ps ∧ SqT K H t3 qs
def spPhI (K : PySem.W.Frag) : Sp := fun vs H Q E => ∃ (a dx : Addr) (x0 x1 x2 x3 x4 : V) (r0 : Option Str) (r1 : Option (List V)) (r2 : Option Bool) (r3 r4 : Option (List V)), vs = [.ref a, x0, x1, x2, x3, x4] ∧ H a = some (.ins (ga K "Phase") dx []) ∧
  isN K H x0 r0 ∧ isL K H nmsB x1 r1 ∧ isB K H x2 r2 ∧ isL K H (fun xs => wdsB xs prW) x3 r3 ∧ isL K H (fun xs => wdsB xs waW) x4 r4 ∧
  (∀ u, wrong r0 r1 r2 r3 r4 = some u → Rz K E H "NoPhase" u) ∧
  (∀ z ws b ps qs, r0 = some z → r1 = some ws → r2 = some b → r3 = some ps → r4 = some qs → ∀ H', But a H H' → PhAt K H' a z ws b ps qs → Q .non H')
section
variable {P : Program} {w : World} {K : PySem.W.Frag} {mg : Str → Option Value} {base : Heap} {f : Addr} {fd : FuncData}
theorem scNoP : FnScope ["self", "part"] ["self", "part"] (defScope sNoP) := ⟨rfl, rfl, rfl, by decide +kernel, rfl, by decide +kernel, by decide +kernel⟩
theorem okNoP (F : FnM K "__init__" "NoPhase.__init__" 6 0 f fd) : FnOk P w K mg base CX0 1 f fd ["self", "part"] (spIni K ["part"]) := by
  refine F.ok scNoP (fun vs H Q E h => ?_) (fun cdv A outer s H vs Q E hr h => ?_)
  · obtain ⟨a, C, v, rfl, _⟩ := ini1 h
    rfl
  refine ⟨_, PSs.nox (pss_one (ps_ost (pv 0) (pv 1))), ?_⟩
  obtain ⟨a, C, v, rfl, T, no, ha, k⟩ := ini1 h
  exact ⟨_, rfl, _, rfl, a, C, rfl, T, no, .inl ⟨ha, fun dx n ne => k dx n ne⟩⟩
theorem bNoP (F : FnM K "__init__" "NoPhase.__init__" 6 0 f fd) : Binds K fd ["self", "part"] [] := FunD.bindsN F fun _ _ _ _ _ _ us hl => match us, hl with | [_, _], _ => rfl
abbrev kwP (K : PySem.W.Frag) : List (Str × V) := [("writers", .ref (kwA ("Phase", some "__init__") "writers" K)), ("fills", .bl false), ("promises", .ref (kwA ("Phase", some "__init__") "promises" K)), ("waits", .ref (kwA ("Phase", some "__init__") "waits" K))]
abbrev FnPhI (K : PySem.W.Frag) (fd : FuncData) : Prop := FunD K "__init__" "Phase.__init__" (defArgs sPhI) (defBody sPhI) (defScope sPhI) [] (kwP K) (ma K (ga K "Phase") "__init__") fd
abbrev nPhI : List Str := ["self", "name", "writers", "fills", "promises", "waits"]
theorem scPhI : FnScope nPhI nPhI (defScope sPhI) := ⟨rfl, rfl, rfl, by decide +kernel, rfl, by decide +kernel, by decide +kernel⟩
theorem ok_phI (F : FnPhI K fd) (T : Txt K mg w) (fns : Fns K) : FnOk P w K mg base (L2.CX P w) 3 (ma K (ga K "Phase") "__init__") fd nPhI (spPhI K) := by
  obtain ⟨dW, FW⟩ := fns.f_is_word
  obtain ⟨dS, FS⟩ := fns.f_are_words
  obtain ⟨dQ, FQ⟩ := fns.f_is_sequence
  obtain ⟨dN, FN⟩ := fns.f_is_name
  obtain ⟨dM, FM⟩ := fns.f_are_names
  obtain ⟨dX, FX⟩ := fns.f_NoPhase_init
  have GS : FnOk P w K mg base CX0 2 (ga K "are_words") dS ["values", "words"] (spWds K) := ok_wds FS T FW
  have GQ : FnOk P w K mg base CX0 1 (ga K "is_sequence") dQ ["value"] (spSeq K) := ok_seq FQ T
  have GN : FnOk P w K mg base CX0 1 (ga K "is_name") dN ["value"] (spNam K) := ok_nam FN T
  have GM : FnOk P w K mg base CX0 2 (ga K "are_names") dM ["value"] (spNms K) := ok_nms FM T FQ FN
  refine F.ok scPhI (fun vs H Q E h => ?_) (fun cdv A outer s H vs Q E hr h => ?_)
  · obtain ⟨_, _, _, _, _, _, _, _, _, _, _, _, rfl, _⟩ := h
    rfl
  have raise : ∀ {p1 p2 p3 p4 : Pos} {j : Nat} {wd : Str}, PS (cxOf (L2.CX P w) P w K mg base nPhI "Phase.__init__" (defScope sPhI) (ma K (ga K "Phase") "__init__") cdv A outer s H E) (.Raise (some (.Call (.Name "NoPhase" p1) [.Constant (.str wd) j p2] [] p3)) none p4) _ := fun {p1 p2 p3 p4 j wd} =>
    ps_raise rfl (takes_of rfl rfl rfl rfl) (pmk_oex T.x_NoPhase.mkx.toOexC T.x_NoPhase.mkx.ini T.x_NoPhase.mkx.tyI (okNoP FX) (hr.mono (by decide)) (bNoP FX) .nil pass0 (by rfl) T.m_NoPhase (pa_cons pe_str pa_nil))
  refine ⟨_, pss_cons (ps_if (pt_not (pt_val (pe_call GN (hr.mono (by decide)) (by rfl) T.m_is_name FN.kp (bNam FN) .nil pass0 (pa_cons (pv 1) pa_nil)))) (pss_one raise) pss_nil)
    (pss_cons (ps_if (pt_not (pt_val (pe_call GM hr (by rfl) T.m_are_names FM.kp (bNms FM) .nil pass0 (pa_cons (pv 2) pa_nil)))) (pss_one raise) pss_nil)
    (pss_cons (ps_if (pt_not (pt_val (pe_callB call_isi (by rfl) T.g_isinstance boot_isinstance (pa_cons (pv 3) (pa_cons (pe_bltn (v := .ty "bool") (by rfl) T.g_bool boot_bool rfl) pa_nil))))) (pss_one raise) pss_nil)
    (pss_cons (ps_if (PW.pt (pw_or (pt_not (pt_val (pe_call GQ (hr.mono (by decide)) (by rfl) T.m_is_sequence FQ.kp (bSeq FQ) .nil pass0 (pa_cons (pv 4) pa_nil)))) (pw_or1 (pt_not (pt_val (pe_call GS hr (by rfl) T.m_are_words FS.kp (bWds FS) .nil pass0 (pa_cons (pv 4) (pa_cons (pe_glob (v := .ref (ga K "PROMISES")) (by rfl) T.m_PROMISES rfl) pa_nil)))))))) (pss_one raise) pss_nil)
    (pss_cons (ps_if (PW.pt (pw_or (pt_not (pt_val (pe_call GQ (hr.mono (by decide)) (by rfl) T.m_is_sequence FQ.kp (bSeq FQ) .nil pass0 (pa_cons (pv 5) pa_nil)))) (pw_or1 (pt_not (pt_val (pe_call GS hr (by rfl) T.m_are_words FS.kp (bWds FS) .nil pass0 (pa_cons (pv 5) (pa_cons (pe_glob (v := .ref (ga K "WAITS")) (by rfl) T.m_WAITS rfl) pa_nil)))))))) (pss_one raise) pss_nil)
    (pss_cons (ps_fld (pv 0) (pv 1) rfl)
    (pss_cons (ps_fld (pv 0) (pe_callTy call_tupS (by rfl) T.g_tuple boot_tuple (pa_cons (pv 2) pa_nil)) rfl)
    (pss_cons (ps_fld (pv 0) (pv 3) rfl)
    (pss_cons (ps_fld (pv 0) (pe_callTy call_tupS (by rfl) T.g_tuple boot_tuple (pa_cons (pv 4) pa_nil)) rfl)
    (pss_one (ps_fld (pv 0) (pe_callTy call_tupS (by rfl) T.g_tuple boot_tuple (pa_cons (pv 5) pa_nil)) rfl)))))))))), ?_⟩
  obtain ⟨a, dx, x0, x1, x2, x3, x4, r0, r1, r2, r3, r4, rfl, ha, h0, h1, h2, h3, h4, rz, k⟩ := h
  have go : ∀ {G : Hp} {wd : Str}, Rz K E G "NoPhase" wd → ([V.str wd].length ≤ 1000 ∧ ∀ p, G p = none → spIni K ["part"] [.ref p, .str wd] (upd G p (exo p (ga K "NoPhase") none)) (fun v H2 => v = .non ∧ ∃ (d : Addr) (fs : List (Str × V)), H2 p = some (exo p (ga K "NoPhase") (some d)) ∧ H2 d = some (exd d fs) ∧ G d = none ∧ E (.ref (ga K "NoPhase")) (some d) (upd (del H2 p) d (.xd fs))) (fun _ _ _ => False)) :=
    fun {G wd} z => ⟨(show 1 ≤ 1000 by decide), fun p n => read_raise T.x_NoPhase [.str wd] n rfl rfl (by simp) rfl fun d H' nd s e => z d H' nd s e⟩
  have rw_ : ∀ {G : Hp} {u : Str}, Same H G → wrong r0 r1 r2 r3 r4 = some u → Rz K E G "NoPhase" u := fun S e => (rz _ e).same S
  -- name
  rcases h0 with ⟨z, rfl, lz, e0⟩ | ⟨no, e0⟩
  case inr => exact ⟨_, rfl, _, rfl, .inr ⟨no, fun H1 S1 => ⟨false, rfl, iteT (go (rw_ S1 (by unfold wrong; rw [if_pos e0])))⟩⟩⟩
  cases nb : nameB z
  case false =>
    rw [nb] at e0
    have e0 : r0 = none := e0
    exact ⟨_, rfl, _, rfl, .inl ⟨z, rfl, lz, fun H1 S1 => ⟨nameB z, rfl, by rw [nb]; exact iteT (go (rw_ S1 (by unfold wrong; rw [if_pos e0])))⟩⟩⟩
  rw [nb] at e0
  have e0 : r0 = some z := e0
  have n0 : ¬ r0 = none := by rw [e0]; simp
  refine ⟨_, rfl, _, rfl, .inl ⟨z, rfl, lz, fun H1 S1 => ⟨nameB z, rfl, ?_⟩⟩⟩
  rw [nb]
  refine iteF ?_
  -- writers
  rcases h1 with ⟨a1, ws, rfl, v1, t1, l1, e1⟩ | ⟨no, e1⟩
  case inr => exact ⟨_, rfl, _, rfl, .inr ⟨no.same S1, fun H2 S2 => ⟨false, rfl, iteT (go (rw_ (S1.trans S2) (by unfold wrong; rw [if_neg n0, if_pos e1])))⟩⟩⟩
  cases mb : nmsB ws
  case false =>
    rw [mb] at e1
    have e1 : r1 = none := e1
    exact ⟨_, rfl, _, rfl, .inl ⟨a1, ws, rfl, v1.same S1, t1.same S1, l1, fun H2 S2 => ⟨nmsB ws, rfl, by rw [mb]; exact iteT (go (rw_ (S1.trans S2) (by unfold wrong; rw [if_neg n0, if_pos e1])))⟩⟩⟩
  rw [mb] at e1
  have e1 : r1 = some ws := e1
  have n1 : ¬ r1 = none := by rw [e1]; simp
  refine ⟨_, rfl, _, rfl, .inl ⟨a1, ws, rfl, v1.same S1, t1.same S1, l1, fun H2 S2 => ⟨nmsB ws, rfl, ?_⟩⟩⟩
  rw [mb]
  refine iteF ?_
  have S02 := S1.trans S2
  -- fills
  rcases h2 with ⟨b, rfl, e2⟩ | ⟨no, e2⟩
  case inr =>
    obtain ⟨t, ty, kk⟩ := no H2 S02
    exact ⟨_, rfl, _, _, _, _, false, rfl, .ty "bool", ty, kk, false, rfl, iteT (go (rw_ S02 (by unfold wrong; rw [if_neg n0, if_neg n1, if_pos e2])))⟩
  have n2 : ¬ r2 = none := by rw [e2]; simp
  refine ⟨_, rfl, _, _, _, _, true, rfl, .ty "bool", .base (.bl b), kit_ty (by decide +kernel), true, rfl, iteF ?_⟩
  -- promises
  rcases h3 with ⟨a3, ps, rfl, v3, t3, l3, e3⟩ | ⟨no, e3⟩
  case inr => exact ⟨_, rfl, _, rfl, .inr ⟨no.same S02, fun H3 S3 => ⟨false, rfl, iteT (go (rw_ (S02.trans S3) (by unfold wrong; rw [if_neg n0, if_neg n1, if_neg n2, if_pos e3])))⟩⟩⟩
  refine ⟨_, rfl, _, rfl, .inl ⟨a3, ps, rfl, v3.same S02, fun H3 S3 => ⟨true, rfl, iteF ?_⟩⟩⟩
  have S03 := S02.trans S3
  cases pb : wdsB ps prW
  case false =>
    have e3 : r3 = none := by rw [e3]; simp only [pb]; rfl
    exact ⟨_, rfl, a3, _, ps, prW, rfl, v3.same S03, t3.same S03, l3, T.t_PROMISES, by decide, by decide +kernel, fun H4 S4 => ⟨wdsB ps prW, rfl, by rw [pb]; exact iteT (go (rw_ (S03.trans S4) (by unfold wrong; rw [if_neg n0, if_neg n1, if_neg n2, if_pos e3])))⟩⟩
  have e3 : r3 = some ps := by rw [e3]; simp only [pb]; rfl
  have n3 : ¬ r3 = none := by rw [e3]; simp
  refine ⟨_, rfl, a3, _, ps, prW, rfl, v3.same S03, t3.same S03, l3, T.t_PROMISES, by decide, by decide +kernel, fun H4 S4 => ⟨wdsB ps prW, rfl, ?_⟩⟩
  rw [pb]
  refine iteF ?_
  have S04 := S03.trans S4
  -- waits
  rcases h4 with ⟨a4, qs, rfl, v4, t4, l4, e4⟩ | ⟨no, e4⟩
  case inr => exact ⟨_, rfl, _, rfl, .inr ⟨no.same S04, fun H5 S5 => ⟨false, rfl, iteT (go (rw_ (S04.trans S5) (by unfold wrong; rw [if_neg n0, if_neg n1, if_neg n2, if_neg n3, if_pos e4])))⟩⟩⟩
  refine ⟨_, rfl, _, rfl, .inl ⟨a4, qs, rfl, v4.same S04, fun H5 S5 => ⟨true, rfl, iteF ?_⟩⟩⟩
  have S05 := S04.trans S5
  cases qb : wdsB qs waW
  case false =>
    have e4 : r4 = none := by rw [e4]; simp only [qb]; rfl
    exact ⟨_, rfl, a4, _, qs, waW, rfl, v4.same S05, t4.same S05, l4, T.t_WAITS, by decide, by decide +kernel, fun H6 S6 => ⟨wdsB qs waW, rfl, by rw [qb]; exact iteT (go (rw_ (S05.trans S6) (by unfold wrong; rw [if_neg n0, if_neg n1, if_neg n2, if_neg n3, if_pos e4])))⟩⟩
  have e4 : r4 = some qs := by rw [e4]; simp only [qb]; rfl
  refine ⟨_, rfl, a4, _, qs, waW, rfl, v4.same S05, t4.same S05, l4, T.t_WAITS, by decide, by decide +kernel, fun H6 S6 => ⟨wdsB qs waW, rfl, ?_⟩⟩
  rw [qb]
  refine iteF ?_
  have S06 := S05.trans S6
  have ha6 := S06 _ _ ha
  have u1 := v1.same S06
  have u3 := v3.same S06
  have u4 := v4.same S06
  have B6 : But a H H6 := But.of S06
  clear go rw_ rz t1 t3 t4 nb mb pb qb S05 S04 S03 S02 S1 S2 S3 S4 S5 S6 v1 v3 v4
  -- the fields
  refine ⟨_, rfl, _, rfl, a, _, dx, _, rfl, ha6, T.c_Phase, T.n_Phase_name, (show 0 < 1000 by decide), ?_⟩
  have off : ∀ {G : Hp} {o : HO} (c : Addr) (u : HO), c ≠ a → G c = some u → upd G a o c = some u := fun c u n e => (upd_ne n).trans e
  have B7 := B6.trans (But.upd (a := a) (H := H6) (o := .ins (ga K "Phase") dx [("name", .str z)]))
  have w1 := u1.ins (H' := upd H6 a (.ins (ga K "Phase") dx [("name", .str z)])) ha6 off
  have w3 := u3.ins (H' := upd H6 a (.ins (ga K "Phase") dx [("name", .str z)])) ha6 off
  have w4 := u4.ins (H' := upd H6 a (.ins (ga K "Phase") dx [("name", .str z)])) ha6 off
  have ha7 : upd H6 a (.ins (ga K "Phase") dx [("name", .str z)]) a = some (.ins (ga K "Phase") dx [("name", .str z)]) := upd_same
  clear B6 u1 u3 u4 ha6
  refine ⟨_, rfl, a1, ws, rfl, w1, fun t1 G1 T1 h1 => ?_⟩
  have ha8 := T1 _ _ ha7
  refine ⟨_, rfl, a, _, dx, _, rfl, ha8, T.c_Phase, T.n_Phase_writers, (show 1 < 1000 by decide), ?_⟩
  have B9 := (B7.trans (But.of T1)).trans (But.upd (a := a) (H := G1) (o := .ins (ga K "Phase") dx [("name", .str z), ("writers", .ref t1)]))
  have x3 := (w3.same T1).ins (H' := upd G1 a (.ins (ga K "Phase") dx [("name", .str z), ("writers", .ref t1)])) ha8 off
  have x4 := (w4.same T1).ins (H' := upd G1 a (.ins (ga K "Phase") dx [("name", .str z), ("writers", .ref t1)])) ha8 off
  have y1 := h1.ins (H' := upd G1 a (.ins (ga K "Phase") dx [("name", .str z), ("writers", .ref t1)])) ha8 off
  have ha9 : upd G1 a (.ins (ga K "Phase") dx [("name", .str z), ("writers", .ref t1)]) a = some (.ins (ga K "Phase") dx [("name", .str z), ("writers", .ref t1)]) := upd_same
  clear B7 w1 w3 w4 ha7 ha8 T1 h1
  refine ⟨_, rfl, _, rfl, a, _, dx, _, rfl, ha9, T.c_Phase, T.n_Phase_fills, (show 2 < 1000 by decide), ?_⟩
  have B10 := B9.trans (But.upd (a := a) (H := upd G1 a (.ins (ga K "Phase") dx [("name", .str z), ("writers", .ref t1)])) (o := .ins (ga K "Phase") dx [("name", .str z), ("writers", .ref t1), ("fills", .bl b)]))
  have w3 := x3.ins (H' := upd (upd G1 a (.ins (ga K "Phase") dx [("name", .str z), ("writers", .ref t1)])) a (.ins (ga K "Phase") dx [("name", .str z), ("writers", .ref t1), ("fills", .bl b)])) ha9 off
  have w4 := x4.ins (H' := upd (upd G1 a (.ins (ga K "Phase") dx [("name", .str z), ("writers", .ref t1)])) a (.ins (ga K "Phase") dx [("name", .str z), ("writers", .ref t1), ("fills", .bl b)])) ha9 off
  have y1 := y1.ins (H' := upd (upd G1 a (.ins (ga K "Phase") dx [("name", .str z), ("writers", .ref t1)])) a (.ins (ga K "Phase") dx [("name", .str z), ("writers", .ref t1), ("fills", .bl b)])) ha9 off
  have ha10 : upd (upd G1 a (.ins (ga K "Phase") dx [("name", .str z), ("writers", .ref t1)])) a (.ins (ga K "Phase") dx [("name", .str z), ("writers", .ref t1), ("fills", .bl b)]) a = some (.ins (ga K "Phase") dx [("name", .str z), ("writers", .ref t1), ("fills", .bl b)]) := upd_same
  clear B9 x3 x4 ha9
  refine ⟨_, rfl, a3, ps, rfl, w3, fun t2 G2 T2 h2 => ?_⟩
  have ha11 := T2 _ _ ha10
  refine ⟨_, rfl, a, _, dx, _, rfl, ha11, T.c_Phase, T.n_Phase_promises, (show 3 < 1000 by decide), ?_⟩
  have B12 := (B10.trans (But.of T2)).trans (But.upd (a := a) (H := G2) (o := .ins (ga K "Phase") dx [("name", .str z), ("writers", .ref t1), ("fills", .bl b), ("promises", .ref t2)]))
  have x4 := (w4.same T2).ins (H' := upd G2 a (.ins (ga K "Phase") dx [("name", .str z), ("writers", .ref t1), ("fills", .bl b), ("promises", .ref t2)])) ha11 off
  have y1 := (y1.same T2).ins (H' := upd G2 a (.ins (ga K "Phase") dx [("name", .str z), ("writers", .ref t1), ("fills", .bl b), ("promises", .ref t2)])) ha11 off
  have y2 := h2.ins (H' := upd G2 a (.ins (ga K "Phase") dx [("name", .str z), ("writers", .ref t1), ("fills", .bl b), ("promises", .ref t2)])) ha11 off
  have ha12 : upd G2 a (.ins (ga K "Phase") dx [("name", .str z), ("writers", .ref t1), ("fills", .bl b), ("promises", .ref t2)]) a = some (.ins (ga K "Phase") dx [("name", .str z), ("writers", .ref t1), ("fills", .bl b), ("promises", .ref t2)]) := upd_same
  clear B10 w3 w4 ha10 ha11 T2 h2
  refine ⟨_, rfl, a4, qs, rfl, x4, fun t3 G3 T3 h3 => ?_⟩
  have ha13 := T3 _ _ ha12
  refine ⟨_, rfl, a, _, dx, _, rfl, ha13, T.c_Phase, T.n_Phase_waits, (show 4 < 1000 by decide), ?_⟩
  exact k z ws b ps qs e0 e1 e2 e3 e4 _ ((B12.trans (But.of T3)).trans But.upd) ⟨dx, t1, t2, t3, upd_same, (y1.same T3).ins ha13 off, (y2.same T3).ins ha13 off, h3.ins ha13 off⟩
end
end K55

set_option maxRecDepth 100000
set_option maxHeartbeats 4000000
namespace K55
open PySem PySem.Spec PyProof.Rows L2 He VH
/-! Phase(..), by its arguments -/
section
variable {K : PySem.W.Frag} {fd : FuncData}
theorem kPhA (F : FnPhI K fd) : ∃ mv : List Value, KBn K fd nPhI 2 ["writers", "fills", "promises", "waits"] (fun us ws => us ++ (mv ++ ws)) (fun vs zs => vs ++ (((([] : List (Str × V)).map (·.2)) ++ zs))) :=
  FunD.kbinds0 F 2 ["writers", "fills", "promises", "waits"] [] (fun us its ws => us ++ (its ++ ws)) (by simp [kwP]) (by simp) (fun a d b => a.append (d.append b))
    fun D doc pm an cdv ct us mv ws l1 l2 l3 => match us, mv, ws, l1, l2, l3 with
      | [_, _], [], [_, _, _, _], _, _, _ => rfl
theorem kPhB (F : FnPhI K fd) : ∃ mv : List Value, KBn K fd nPhI 1 ["waits", "name"] (fun us ws => us ++ (ws.drop 1 ++ (mv ++ ws.take 1))) (fun vs zs => vs ++ (zs.drop 1 ++ (((kwP K).take 3).map (·.2) ++ zs.take 1))) :=
  FunD.kbinds0 F 1 ["waits", "name"] ((kwP K).take 3) (fun us its ws => us ++ (ws.drop 1 ++ (its ++ ws.take 1))) (by simp [kwP]) (fun q hq => List.mem_of_mem_take hq) (fun a d b => a.append ((b.drop 1).append (d.append (b.take 1))))
    fun D doc pm an cdv ct us mv ws l1 l2 l3 => match us, mv, ws, l1, l2, l3 with
      | [_], [_, _, _], [_, _], _, _, _ => ⟨_, _, _, _, _, _, rfl, rfl, _, _, _, _, _, _, rfl, rfl, _, _, _, _, _, _, rfl, rfl, rfl⟩
theorem kPhC (F : FnPhI K fd) : ∃ mv : List Value, KBn K fd nPhI 2 [] (fun us ws => us ++ (mv ++ ws)) (fun vs zs => vs ++ ((kwP K).map (·.2) ++ zs)) :=
  FunD.kbinds0 F 2 [] (kwP K) (fun us its ws => us ++ (its ++ ws)) (by simp [kwP]) (fun q hq => hq) (fun a d b => a.append (d.append b))
    fun D doc pm an cdv ct us mv ws l1 l2 l3 => match us, mv, ws, l1, l2, l3 with
      | [_, _], [_, _, _, _], [], _, _, _ => ⟨_, _, _, _, _, _, rfl, rfl, _, _, _, _, _, _, rfl, rfl, _, _, _, _, _, _, rfl, rfl, _, _, _, _, _, _, rfl, rfl, rfl⟩
end
end K55

set_option maxRecDepth 100000
set_option maxHeartbeats 4000000
namespace K55
open PySem PySem.Spec PyProof.Rows L2 He VH RZ
/-! integers, bounds, sizes, the statement of a Fill -/
abbrev sInt : Stmt := top 13
abbrev sBtw : Stmt := top 14
abbrev sSiz : Stmt := top 18
abbrev sFst : Stmt := top 46
abbrev FnInt (K : PySem.W.Frag) (fd : FuncData) : Prop := FnP K "is_integer" sInt (ga K "is_integer") fd
abbrev FnBtw (K : PySem.W.Frag) (fd : FuncData) : Prop := FnP K "is_between" sBtw (ga K "is_between") fd
abbrev FnSiz (K : PySem.W.Frag) (fd : FuncData) : Prop := FnP K "is_sized" sSiz (ga K "is_sized") fd
abbrev FnFst (K : PySem.W.Frag) (fd : FuncData) : Prop := FnP K "is_fill_statement" sFst (ga K "is_fill_statement") fd
theorem bInt {K : PySem.W.Frag} {fd : FuncData} (F : FnInt K fd) : Binds K fd ["value"] [] := FunD.bindsN F fun _ _ _ _ _ _ us hl => match us, hl with | [_], _ => rfl
theorem bBtw {K : PySem.W.Frag} {fd : FuncData} (F : FnBtw K fd) : Binds K fd ["value", "least", "most"] [] := FunD.bindsN F fun _ _ _ _ _ _ us hl => match us, hl with | [_, _, _], _ => rfl
theorem bSiz {K : PySem.W.Frag} {fd : FuncData} (F : FnSiz K fd) : Binds K fd ["value", "least", "most"] [] := FunD.bindsN F fun _ _ _ _ _ _ us hl => match us, hl with | [_, _, _], _ => rfl
theorem bFst {K : PySem.W.Frag} {fd : FuncData} (F : FnFst K fd) : Binds K fd ["value"] [] := FunD.bindsN F fun _ _ _ _ _ _ us hl => match us, hl with | [_], _ => rfl
/-- the known type of a value: is it an integer -/
def IntV (K : PySem.W.Frag) (H : Hp) (x : V) (b : Bool) : Prop := ∃ (t : Value) (b1 b2 : Bool), TyX K H x t ∧ PySem.W.kitOne K t (.type "int") = some b1 ∧ PySem.W.kitOne K t (.type "bool") = some b2 ∧ b = (b1 && !b2)
theorem IntV.int {K : PySem.W.Frag} {H : Hp} {i : Int} : IntV K H (.int i) true := ⟨_, true, false, .base (.int i), kit_ty (by decide +kernel), kit_ty (by decide +kernel), rfl⟩
theorem IntV.bl {K : PySem.W.Frag} {H : Hp} {i : Bool} : IntV K H (.bl i) false := ⟨_, true, true, .base (.bl i), kit_ty (by decide +kernel), kit_ty (by decide +kernel), rfl⟩
theorem IntV.str {K : PySem.W.Frag} {H : Hp} {i : Str} : IntV K H (.str i) false := ⟨_, false, false, .base (.str i), kit_ty (by decide +kernel), kit_ty (by decide +kernel), rfl⟩
theorem IntV.non {K : PySem.W.Frag} {H : Hp} : IntV K H .non false := ⟨_, false, false, .base .non, kit_ty (by decide +kernel), kit_ty (by decide +kernel), rfl⟩
theorem IntV.tup {K : PySem.W.Frag} {H : Hp} {a : Addr} {xs : List V} (h : H a = some (.tup xs)) : IntV K H (.ref a) false := ⟨_, false, false, .base (.tup h), kit_ty (by decide +kernel), kit_ty (by decide +kernel), rfl⟩
theorem IntV.lst {K : PySem.W.Frag} {H : Hp} {a : Addr} {xs : List V} (h : H a = some (.lst xs)) : IntV K H (.ref a) false := ⟨_, false, false, .base (.lst h), kit_ty (by decide +kernel), kit_ty (by decide +kernel), rfl⟩
theorem IntV.dct {K : PySem.W.Frag} {H : Hp} {a : Addr} {xs : List (Key × V)} (h : H a = some (.dK xs)) : IntV K H (.ref a) false := ⟨_, false, false, .base (.dK h), kit_ty (by decide +kernel), kit_ty (by decide +kernel), rfl⟩
def spInt (K : PySem.W.Frag) : Sp := fun vs H Q _ => ∃ (x : V) (b : Bool), vs = [x] ∧ IntV K H x b ∧ Q (.bl b) H
/-- an integer, or known to be none -/
def isI (K : PySem.W.Frag) (H : Hp) (x : V) (r : Option Int) : Prop := (∃ i, x = .int i ∧ r = some i) ∨ (IntV K H x false ∧ r = none)
/-- is it from lo to hi -/
def btwB (r : Option Int) (lo hi : Int) : Bool := match r with
  | some i => decide (lo ≤ i) && decide (i ≤ hi)
  | none => false
def spBtw (K : PySem.W.Frag) : Sp := fun vs H Q _ => ∃ (x : V) (lo hi : Int) (r : Option Int), vs = [x, .int lo, .int hi] ∧ isI K H x r ∧ Q (.bl (btwB r lo hi)) H
/-- a list or a tuple of lo to hi items -/
def spSiz (K : PySem.W.Frag) : Sp := fun vs H Q _ => ∃ (x : V) (lo hi : Int), vs = [x, .int lo, .int hi] ∧
  ((∃ (a : Addr) (xs : List V), x = .ref a ∧ SqV K H a xs ∧ ∀ H', Same H H' → Q (.bl (decide (lo ≤ (xs.length : Nat)) && decide (((xs.length : Nat) : Int) ≤ hi))) H') ∨ (NoSq K H x ∧ ∀ H', Same H H' → Q (.bl false) H'))
/-- may it stand in a Fill -/
def Stp.fill (s : Stp) : Bool := decide (s.w = "put") || (decide (s.w = "set") && !decide (s.mid.head? = some "input"))
def spFst (K : PySem.W.Frag) : Sp := fun vs H Q _ => ∃ (p : Addr) (s : Stp), vs = [.ref p] ∧ StAt H p s ∧ s.ok = true ∧ ∀ H', Same H H' → Q (.bl s.fill) H'
section
variable {P : Program} {w : World} {K : PySem.W.Frag} {mg : Str → Option Value} {base : Heap} {f fI : Addr} {fd fdI fdT fdW fdS fdQ : FuncData}
theorem scInt : FnScope ["value"] ["value"] (defScope sInt) := ⟨rfl, rfl, rfl, by decide +kernel, rfl, by decide +kernel, by decide +kernel⟩
theorem ok_int {CX : CXT} (F : FnP K "is_integer" sInt f fd) (T : Txt K mg w) : FnOk P w K mg base CX 1 f fd ["value"] (spInt K) := by
  refine F.ok scInt (fun vs H Q E h => ?_) (fun cdv A outer s H vs Q E hr h => ?_)
  · obtain ⟨x, b, rfl, _⟩ := h
    rfl
  refine ⟨_, pss_one (ps_ret (pe_and (pe_callB call_isi (by rfl) T.g_isinstance boot_isinstance (pa_cons (pv 0) (pa_cons (pe_bltn (v := .ty "int") (by rfl) T.g_int boot_int rfl) pa_nil)))
    (pe_one (pe_not (pe_callB call_isi (by rfl) T.g_isinstance boot_isinstance (pa_cons (pv 0) (pa_cons (pe_bltn (v := .ty "bool") (by rfl) T.g_bool boot_bool rfl) pa_nil))))))), ?_⟩
  obtain ⟨x, b, rfl, ⟨t, b1, b2, ty, k1, k2, rfl⟩, q⟩ := h
  refine ⟨_, rfl, x, _, t, _, b1, rfl, .ty "int", ty, k1, b1, rfl, ?_⟩
  cases b1 with
  | false => exact iteF q
  | true => exact iteT ⟨_, rfl, x, _, t, _, b2, rfl, .ty "bool", ty, k2, b2, rfl, q⟩
theorem scBtw : FnScope ["value", "least", "most"] ["value", "least", "most"] (defScope sBtw) := ⟨rfl, rfl, rfl, by decide +kernel, rfl, by decide +kernel, by decide +kernel⟩
theorem ok_btw (F : FnP K "is_between" sBtw f fd) (T : Txt K mg w) (FI : FnInt K fdI) : FnOk P w K mg base CX0 2 f fd ["value", "least", "most"] (spBtw K) := by
  have GI : FnOk P w K mg base CX0 1 (ga K "is_integer") fdI ["value"] (spInt K) := ok_int FI T
  refine F.ok scBtw (fun vs H Q E h => ?_) (fun cdv A outer s H vs Q E hr h => ?_)
  · obtain ⟨x, lo, hi, r, rfl, _⟩ := h
    rfl
  refine ⟨_, PSs.nox (pss_one (ps_ret (pe_and (pe_call GI (hr.mono (by decide)) (by rfl) T.m_is_integer FI.kp (bInt FI) .nil pass0 (pa_cons (pv 0) pa_nil)) (pe_one (pe_chain op_le op_le (pv 1) (pv 0) (pv 2)))))), ?_⟩
  obtain ⟨x, lo, hi, r, rfl, h, q⟩ := h
  rcases h with ⟨i, rfl, rfl⟩ | ⟨h, rfl⟩
  · refine ⟨_, rfl, _, true, rfl, .int, true, rfl, iteT ?_⟩
    refine ⟨_, rfl, _, rfl, ?_⟩
    unfold btwB at q
    refine ⟨_, _, rfl, rfl, _, rfl, ?_⟩
    cases l1 : decide (lo ≤ i) with
    | false =>
      simp only [l1, Bool.false_and] at q
      exact iteF q
    | true =>
      simp only [l1, Bool.true_and] at q
      exact iteT ⟨_, rfl, _, _, rfl, rfl, q⟩
  · exact ⟨_, rfl, _, false, rfl, h, false, rfl, iteF q⟩
theorem scSiz : FnScope ["value", "least", "most"] ["value", "least", "most"] (defScope sSiz) := ⟨rfl, rfl, rfl, by decide +kernel, rfl, by decide +kernel, by decide +kernel⟩
theorem ok_siz (F : FnP K "is_sized" sSiz f fd) (T : Txt K mg w) (FQ : FnSeq K fdQ) : FnOk P w K mg base CX0 2 f fd ["value", "least", "most"] (spSiz K) := by
  have GQ : FnOk P w K mg base CX0 1 (ga K "is_sequence") fdQ ["value"] (spSeq K) := ok_seq FQ T
  refine F.ok scSiz (fun vs H Q E h => ?_) (fun cdv A outer s H vs Q E hr h => ?_)
  · obtain ⟨x, lo, hi, rfl, _⟩ := h
    rfl
  refine ⟨_, PSs.nox (pss_one (ps_ret (pe_and (pe_call GQ (hr.mono (by decide)) (by rfl) T.m_is_sequence FQ.kp (bSeq FQ) .nil pass0 (pa_cons (pv 0) pa_nil)) (pe_one (pe_chain op_le op_le (pv 1) (pe_callB call_len_seq (by rfl) T.g_len boot_len (pa_cons (pv 0) pa_nil)) (pv 2)))))), ?_⟩
  obtain ⟨x, lo, hi, rfl, h⟩ := h
  rcases h with ⟨a, xs, rfl, hv, k⟩ | ⟨no, k⟩
  · refine ⟨_, rfl, _, rfl, .inl ⟨a, xs, rfl, hv, fun H1 S1 => ⟨true, rfl, iteT ?_⟩⟩⟩
    refine ⟨_, rfl, _, rfl, a, _, rfl, hv.same S1, _, _, rfl, rfl, _, rfl, ?_⟩
    have q := k H1 S1
    cases l1 : decide (lo ≤ ((xs.length : Nat) : Int)) with
    | false =>
      rw [l1] at q
      exact iteF q
    | true =>
      rw [l1, Bool.true_and] at q
      exact iteT ⟨_, rfl, _, _, rfl, rfl, q⟩
  · exact ⟨_, rfl, _, rfl, .inr ⟨no, fun H1 S1 => ⟨false, rfl, iteF (k H1 S1)⟩⟩⟩
theorem atOne {x y : V} {l : List V} : atI (x :: y :: l) 1 = some y := by
  unfold atI ixN
  rw [if_pos (by decide), if_pos (by rw [List.length_cons, List.length_cons]; omega)]
  rfl
theorem scFst : FnScope ["value"] ["value"] (defScope sFst) := ⟨rfl, rfl, rfl, by decide +kernel, rfl, by decide +kernel, by decide +kernel⟩
theorem ok_fst (F : FnP K "is_fill_statement" sFst f fd) (T : Txt K mg w) (FT : FnIst K fdT) (FW : FnWrd K fdW) (FS : FnWds K fdS) : FnOk P w K mg base CX0 4 f fd ["value"] (spFst K) := by
  have GT : FnOk P w K mg base CX0 3 (ga K "is_statement") fdT ["value"] (spIst K) := ok_ist FT T FW FS
  refine F.ok scFst (fun vs H Q E h => ?_) (fun cdv A outer s H vs Q E hr h => ?_)
  · obtain ⟨p, s, rfl, _⟩ := h
    rfl
  refine ⟨_, PSs.nox (pss_cons (ps_if (pt_not (pt_val (pe_call GT (hr.mono (by decide)) (by rfl) T.m_is_statement FT.kp (bIst FT) .nil pass0 (pa_cons (pv 0) pa_nil)))) (pss_one (ps_ret pe_bl)) pss_nil)
    (pss_one (ps_ret (pe_or (pe_cmpR op_eq (pe_ix ix_tup (pv 0) pe_int (fun _ _ => rfl)) pe_str (nomark _)) (pe_one (pe_and (pe_cmpR op_eq (pe_ix ix_tup (pv 0) pe_int (fun _ _ => rfl)) pe_str (nomark _)) (pe_one (pe_cmpR op_ne (pe_ix ix_tup (pv 0) pe_int (fun _ _ => rfl)) pe_str (nomark _))))))))), ?_⟩
  obtain ⟨p, s, rfl, at_, ok, k⟩ := h
  refine ⟨_, rfl, _, true, rfl, at_.is ok, fun H1 S1 => ⟨true, rfl, iteF ?_⟩⟩
  have at1 : StAt H1 p s := at_.same fun b xs e => S1 _ _ e
  have q := k H1 S1
  clear k at_
  have first : ∃ xs, H1 p = some (.tup (.str s.w :: xs)) ∧ (s.w = "set" → ∃ m ys, s.mid.head? = some m ∧ xs = .str m :: ys) := by
    unfold StAt at at1
    split at at1
    · rename_i e
      exact ⟨_, by rw [at1, e], fun z => by rw [e] at z; exact absurd z (by decide)⟩
    · obtain ⟨q, h1, h2⟩ := at1
      refine ⟨_, h1, fun z => ?_⟩
      obtain ⟨_, l, _⟩ := Stp.facts ok
      cases hm : s.mid with
      | nil =>
        rw [hm, z] at l
        exact absurd l (by decide)
      | cons m ms => exact ⟨m, _, rfl, rfl⟩
  obtain ⟨xs, hp, second⟩ := first
  unfold Stp.fill at q
  refine ⟨_, rfl, _, _, _, _, rfl, rfl, SqT.of hp, at0, rfl, _, rfl, ?_⟩
  by_cases e1 : s.w = "put"
  · rw [show decide (V.str s.w = V.str "put") = true by simp [e1]]
    rw [decide_eq_true e1, Bool.true_or] at q
    exact iteT q
  rw [show decide (V.str s.w = V.str "put") = false by simp [e1]]
  rw [decide_eq_false e1, Bool.false_or] at q
  refine iteF ⟨_, rfl, _, _, _, _, rfl, rfl, SqT.of hp, at0, rfl, _, rfl, ?_⟩
  by_cases e2 : s.w = "set"
  case neg =>
    rw [show decide (V.str s.w = V.str "set") = false by simp [e2]]
    rw [decide_eq_false e2, Bool.false_and] at q
    exact iteF q
  rw [show decide (V.str s.w = V.str "set") = true by simp [e2]]
  rw [decide_eq_true e2, Bool.true_and] at q
  obtain ⟨m, ys, hm, rfl⟩ := second e2
  refine iteT ⟨_, rfl, _, _, _, _, rfl, rfl, SqT.of hp, (show atI (V.str s.w :: V.str m :: ys) 1 = some (.str m) from atOne), rfl, ?_⟩
  rw [hm] at q
  rw [show decide (V.str m = V.str "input") = decide (some m = some "input") by simp]
  exact q
end
end K55

set_option maxRecDepth 100000
set_option maxHeartbeats 4000000
namespace K55
open PySem PySem.Spec PyProof.Rows L2 He VH RZ
/-! a Fill made (of what is right) -/
abbrev sNoF : Stmt := inClass (top 5) 0
abbrev sFlI : Stmt := inClass (top 47) 0
abbrev FnNoF (K : PySem.W.Frag) (fd : FuncData) : Prop := FnM K "__init__" "NoFill.__init__" 5 0 (ma K (ga K "NoFill") "__init__") fd
abbrev kwF : List (Str × V) := [("batch", .int 1), ("save", .str "last"), ("lock", .bl false), ("only_missing", .bl false), ("falls", .bl false), ("again", .bl false)]
abbrev FnFlI (K : PySem.W.Frag) (fd : FuncData) : Prop := FunD K "__init__" "Fill.__init__" (defArgs sFlI) (defBody sFlI) (defScope sFlI) [] kwF (ma K (ga K "Fill") "__init__") fd
/-- the parts of a Fill behind its statement -/
structure Fl where
  b : Int
  z : Str
  f1 : Bool
  f2 : Bool
  f3 : Bool
  f4 : Bool
structure Fl.Ok (d : Fl) : Prop where
  b1 : 1 ≤ d.b
  b2 : d.b ≤ 100
  z : d.z ∈ (["last", "first"] : List Str)
def FlAt (K : PySem.W.Frag) (H : Hp) (a p : Addr) (d : Fl) : Prop := ∃ dx : Addr, H a = some (.ins (ga K "Fill") dx [("statement", .ref p), ("batch", .int d.b), ("save", .str d.z), ("lock", .bl d.f1), ("only_missing", .bl d.f2), ("falls", .bl d.f3), ("again", .bl d.f4)])
def spFlI (K : PySem.W.Frag) : Sp := fun vs H Q _ => ∃ (a dx p : Addr) (s : Stp) (d : Fl), vs = [.ref a, .ref p, .int d.b, .str d.z, .bl d.f1, .bl d.f2, .bl d.f3, .bl d.f4] ∧ H a = some (.ins (ga K "Fill") dx []) ∧
  StAt H p s ∧ s.ok = true ∧ s.fill = true ∧ d.Ok ∧ ∀ H', But a H H' → FlAt K H' a p d → Q .non H'
section
variable {P : Program} {w : World} {K : PySem.W.Frag} {mg : Str → Option Value} {base : Heap} {f : Addr} {fd : FuncData}
theorem scNoF : FnScope ["self", "part"] ["self", "part"] (defScope sNoF) := ⟨rfl, rfl, rfl, by decide +kernel, rfl, by decide +kernel, by decide +kernel⟩
theorem okNoF (F : FnM K "__init__" "NoFill.__init__" 5 0 f fd) : FnOk P w K mg base CX0 1 f fd ["self", "part"] (spIni K ["part"]) := by
  refine F.ok scNoF (fun vs H Q E h => ?_) (fun cdv A outer s H vs Q E hr h => ?_)
  · obtain ⟨a, C, v, rfl, _⟩ := ini1 h
    rfl
  refine ⟨_, PSs.nox (pss_one (ps_ost (pv 0) (pv 1))), ?_⟩
  obtain ⟨a, C, v, rfl, T, no, ha, k⟩ := ini1 h
  exact ⟨_, rfl, _, rfl, a, C, rfl, T, no, .inl ⟨ha, fun dx n ne => k dx n ne⟩⟩
theorem bNoF (F : FnM K "__init__" "NoFill.__init__" 5 0 f fd) : Binds K fd ["self", "part"] [] := FunD.bindsN F fun _ _ _ _ _ _ us hl => match us, hl with | [_, _], _ => rfl
abbrev nFlI : List Str := ["self", "statement", "batch", "save", "lock", "only_missing", "falls", "again", "flags", "part", "flag"]
abbrev pFlI : List Str := ["self", "statement", "batch", "save", "lock", "only_missing", "falls", "again"]
theorem scFlI : FnScope nFlI pFlI (defScope sFlI) := ⟨rfl, rfl, rfl, by decide +kernel, rfl, by decide +kernel, by decide +kernel⟩
theorem ok_flI (F : FnFlI K fd) (T : Txt K mg w) (fns : Fns K) : FnOk P w K mg base (L2.CX P w) 5 (ma K (ga K "Fill") "__init__") fd pFlI (spFlI K) := by
  obtain ⟨dW, FW⟩ := fns.f_is_word
  obtain ⟨dS, FS⟩ := fns.f_are_words
  obtain ⟨dI, FI⟩ := fns.f_is_integer
  obtain ⟨dB, FB⟩ := fns.f_is_between
  obtain ⟨dT, FT⟩ := fns.f_is_statement
  obtain ⟨dL, FL⟩ := fns.f_is_fill_statement
  obtain ⟨dX, FX⟩ := fns.f_NoFill_init
  have GW : FnOk P w K mg base CX0 1 (ga K "is_word") dW ["value", "words"] (spWrd K) := ok_wrd FW T
  have GB : FnOk P w K mg base CX0 2 (ga K "is_between") dB ["value", "least", "most"] (spBtw K) := ok_btw FB T FI
  have GL : FnOk P w K mg base CX0 4 (ga K "is_fill_statement") dL ["value"] (spFst K) := ok_fst FL T FT FW FS
  refine F.ok scFlI (fun vs H Q E h => ?_) (fun cdv A outer s H vs Q E hr h => ?_)
  · obtain ⟨_, _, _, _, _, rfl, _⟩ := h
    rfl
  have raise : ∀ {p1 p2 p3 p4 : Pos} {j : Nat} {wd : Str}, PS (cxOf (L2.CX P w) P w K mg base nFlI "Fill.__init__" (defScope sFlI) (ma K (ga K "Fill") "__init__") cdv A outer s H E) (.Raise (some (.Call (.Name "NoFill" p1) [.Constant (.str wd) j p2] [] p3)) none p4) _ := fun {p1 p2 p3 p4 j wd} =>
    ps_raise rfl (takes_of rfl rfl rfl rfl) (pmk_oex T.x_NoFill.mkx.toOexC T.x_NoFill.mkx.ini T.x_NoFill.mkx.tyI (okNoF FX) (hr.mono (by decide)) (bNoF FX) .nil pass0 (by rfl) T.m_NoFill (pa_cons pe_str pa_nil))
  refine ⟨_, pss_cons (ps_if (pt_not (pt_val (pe_call GL (hr.mono (by decide)) (by rfl) T.m_is_fill_statement FL.kp (bFst FL) .nil pass0 (pa_cons (pv 1) pa_nil)))) (pss_one raise) pss_nil)
    (pss_cons (ps_if (pt_not (pt_val (pe_call GB (hr.mono (by decide)) (by rfl) T.m_is_between FB.kp (bBtw FB) .nil pass0 (pa_cons (pv 2) (pa_cons pe_int (pa_cons pe_int pa_nil)))))) (pss_one raise) pss_nil)
    (pss_cons (ps_if (pt_not (pt_val (pe_call GW (hr.mono (by decide)) (by rfl) T.m_is_word FW.kp (bWrd FW) .nil pass0 (pa_cons (pv 3) (pa_cons (pe_glob (v := .ref (ga K "SAVES")) (by rfl) T.m_SAVES rfl) pa_nil))))) (pss_one raise) pss_nil)
    (pss_cons (ps_set (i := 8) scFlI.nd rfl (Or.inl rfl) (pe_tup (pa_cons (pe_tup (pa_cons pe_str (pa_cons (pv 4) pa_nil))) (pa_cons (pe_tup (pa_cons pe_str (pa_cons (pv 5) pa_nil))) (pa_cons (pe_tup (pa_cons pe_str (pa_cons (pv 6) pa_nil))) (pa_cons (pe_tup (pa_cons pe_str (pa_cons (pv 7) pa_nil))) pa_nil))))))
    (pss_cons (ps_for (passes_of rfl) rfl (pi_tup (pv 8)) (pg_tup rfl (pgs_cons (pg_name (i := 9) scFlI.nd rfl (Or.inl rfl)) (pgs_cons (pg_name (i := 10) scFlI.nd rfl (Or.inl rfl)) pgs_nil)))
      (pss_one (ps_if (pt_not (pt_val (pe_callB call_isi (by rfl) T.g_isinstance boot_isinstance (pa_cons (pv 10) (pa_cons (pe_bltn (v := .ty "bool") (by rfl) T.g_bool boot_bool rfl) pa_nil)))))
        (pss_one (ps_raise rfl (takes_of rfl rfl rfl rfl) (pmk_oex T.x_NoFill.mkx.toOexC T.x_NoFill.mkx.ini T.x_NoFill.mkx.tyI (okNoF FX) (hr.mono (by decide)) (bNoF FX) .nil pass0 (by rfl) T.m_NoFill (pa_cons (pv 9) pa_nil)))) pss_nil)))
    (pss_cons (ps_fld (pv 0) (pv 1) rfl) (pss_cons (ps_fld (pv 0) (pv 2) rfl) (pss_cons (ps_fld (pv 0) (pv 3) rfl) (pss_cons (ps_fld (pv 0) (pv 4) rfl) (pss_cons (ps_fld (pv 0) (pv 5) rfl) (pss_cons (ps_fld (pv 0) (pv 6) rfl) (pss_one (ps_fld (pv 0) (pv 7) rfl)))))))))))), ?_⟩
  obtain ⟨a, dx, p, s, d, rfl, ha, at_, ok, fi, od, k⟩ := h
  obtain ⟨b, z, f1, f2, f3, f4⟩ := d
  obtain ⟨b1, b2, hz⟩ := od
  simp only at b1 b2 hz
  refine ⟨_, rfl, p, s, rfl, at_, ok, fun H1 S1 => ⟨s.fill, rfl, ?_⟩⟩
  rw [fi]
  refine iteF ?_
  have ha1 := S1 _ _ ha
  refine ⟨_, rfl, .int b, 1, 100, some b, rfl, .inl ⟨b, rfl, rfl⟩, btwB (some b) 1 100, rfl, ?_⟩
  rw [show btwB (some b) 1 100 = true by simp [btwB, b1, b2]]
  refine iteF ?_
  refine ⟨_, rfl, .str z, ga K "SAVES", ["last", "first"], rfl, T.t_SAVES _, .inl ⟨z, rfl, _, rfl, ?_⟩⟩
  rw [show (["last", "first"] : List Str).contains z = true from List.elem_iff.mpr hz]
  refine iteF ?_
  refine ⟨_, rfl, (show 2 ≤ sizeLine by decide), fun t1 n1 => ⟨_, rfl, (show 2 ≤ sizeLine by decide), fun t2 n2 => ⟨_, rfl, (show 2 ≤ sizeLine by decide), fun t3 n3 => ⟨_, rfl, (show 2 ≤ sizeLine by decide), fun t4 n4 => ⟨(show 4 ≤ sizeLine by decide), fun t5 n5 => ?_⟩⟩⟩⟩⟩
  have s1 := Same.new (o := .tup [.str "lock", .bl f1]) n1
  have s2 := Same.new (o := .tup [.str "only_missing", .bl f2]) n2
  have s3 := Same.new (o := .tup [.str "falls", .bl f3]) n3
  have s4 := Same.new (o := .tup [.str "again", .bl f4]) n4
  have s5 := Same.new (o := .tup [.ref t1, .ref t2, .ref t3, .ref t4]) n5
  have S5 := S1.trans (s1.trans (s2.trans (s3.trans (s4.trans s5))))
  have each : ∀ x ∈ ([.ref t1, .ref t2, .ref t3, .ref t4] : List V), ∃ (t : Addr) (u : Str) (e : Bool), x = .ref t ∧ upd (upd (upd (upd (upd H1 t1 (.tup [.str "lock", .bl f1])) t2 (.tup [.str "only_missing", .bl f2])) t3 (.tup [.str "falls", .bl f3])) t4 (.tup [.str "again", .bl f4])) t5 (.tup [.ref t1, .ref t2, .ref t3, .ref t4]) t = some (.tup [.str u, .bl e]) := by
    intro x hx
    rcases List.mem_cons.mp hx with rfl | hx
    · exact ⟨t1, _, _, rfl, (s2.trans (s3.trans (s4.trans s5))) _ _ upd_same⟩
    rcases List.mem_cons.mp hx with rfl | hx
    · exact ⟨t2, _, _, rfl, (s3.trans (s4.trans s5)) _ _ upd_same⟩
    rcases List.mem_cons.mp hx with rfl | hx
    · exact ⟨t3, _, _, rfl, (s4.trans s5) _ _ upd_same⟩
    rcases List.mem_cons.mp hx with rfl | hx
    · exact ⟨t4, _, _, rfl, s5 _ _ upd_same⟩
    cases hx
  clear s1 s2 s3 s4 s5 S1 ha1
  have h5 : upd (upd (upd (upd (upd H1 t1 (.tup [.str "lock", .bl f1])) t2 (.tup [.str "only_missing", .bl f2])) t3 (.tup [.str "falls", .bl f3])) t4 (.tup [.str "again", .bl f4])) t5 (.tup [.ref t1, .ref t2, .ref t3, .ref t4]) t5 = some (.tup [.ref t1, .ref t2, .ref t3, .ref t4]) := upd_same
  generalize upd (upd (upd (upd (upd H1 t1 (.tup [.str "lock", .bl f1])) t2 (.tup [.str "only_missing", .bl f2])) t3 (.tup [.str "falls", .bl f3])) t4 (.tup [.str "again", .bl f4])) t5 (.tup [.ref t1, .ref t2, .ref t3, .ref t4]) = G at S5 each h5 ⊢
  refine ⟨_, rfl, t5, rfl, ⟨_, SqT.of h5⟩, ?_⟩
  refine for_tup (K := K) (xs := [.ref t1, .ref t2, .ref t3, .ref t4]) (fun i σ G' => G' = G ∧ ∃ v9 v10, σ = [some (.ref a), some (.ref p), some (.int b), some (.str z), some (.bl f1), some (.bl f2), some (.bl f3), some (.bl f4), some (.ref t5), v9, v10]) ⟨rfl, _, _, rfl⟩ (fun i σ G' _ g => ?_) (fun i x σ G' hx g => ?_) (fun σ G' g => ?_)
  · rw [g.1]
    exact SqT.of h5
  · obtain ⟨rfl, v9, v10, rfl⟩ := g
    obtain ⟨t, u, e, rfl, ht⟩ := each x (List.mem_of_getElem? hx)
    refine ⟨t, _, rfl, SqT.of ht, rfl, _, _, rfl, _, _, rfl, rfl, ?_⟩
    exact ⟨_, rfl, _, _, _, _, true, rfl, .ty "bool", .base (.bl e), kit_ty (by decide +kernel), true, rfl, iteF ⟨rfl, _, _, rfl⟩⟩
  · obtain ⟨rfl, v9, v10, rfl⟩ := g
    have ha5 := S5 _ _ ha
    refine ⟨_, rfl, _, rfl, a, _, dx, _, rfl, ha5, T.c_Fill, T.n_Fill_statement, (show 0 < 1000 by decide), ?_⟩
    refine ⟨_, rfl, _, rfl, a, _, dx, _, rfl, upd_same, T.c_Fill, T.n_Fill_batch, (show 1 < 1000 by decide), ?_⟩
    refine ⟨_, rfl, _, rfl, a, _, dx, _, rfl, upd_same, T.c_Fill, T.n_Fill_save, (show 2 < 1000 by decide), ?_⟩
    refine ⟨_, rfl, _, rfl, a, _, dx, _, rfl, upd_same, T.c_Fill, T.n_Fill_lock, (show 3 < 1000 by decide), ?_⟩
    refine ⟨_, rfl, _, rfl, a, _, dx, _, rfl, upd_same, T.c_Fill, T.n_Fill_only_missing, (show 4 < 1000 by decide), ?_⟩
    refine ⟨_, rfl, _, rfl, a, _, dx, _, rfl, upd_same, T.c_Fill, T.n_Fill_falls, (show 5 < 1000 by decide), ?_⟩
    refine ⟨_, rfl, _, rfl, a, _, dx, _, rfl, upd_same, T.c_Fill, T.n_Fill_again, (show 6 < 1000 by decide), ?_⟩
    exact k _ (((((((But.of S5).trans But.upd).trans But.upd).trans But.upd).trans But.upd).trans But.upd).trans But.upd |>.trans But.upd) ⟨dx, upd_same⟩
end
end K55

set_option maxRecDepth 100000
set_option maxHeartbeats 4000000
namespace L2
open PySem PySem.Spec PyProof.Rows
theorem for_enumX {K : PySem.W.Frag} {a : Addr} {xs : List V} {g : TG} {tb : TS} {D : Ends} {σ : St} {H : Hp} (Pv : Nat → St → Hp → Prop) (h0 : Pv 0 σ H) (hl : ∀ i σ H, i ≤ xs.length → Pv i σ H → SqL K H a xs)
    (hs : ∀ i x σ H T, xs[i]? = some x → Pv i σ H → H T = none → g (.ref T) σ (upd H T (.tup [.int (i : Nat), x])) fun σ2 H2 => tb { D with nx := Pv (i + 1), ct := Pv (i + 1), bk := D.nx } σ2 H2) (hd : ∀ σ H, Pv xs.length σ H → D.nx σ H) :
    ∃ W : Nat → Nat → St → Hp → Prop, (∃ m, W 0 m σ H) ∧ ∀ i m σ H, W i m σ H →
      ((Ite K a).stop i H ∧ D.nx σ H) ∨ ((Ite K a).go i H ∧ ∃ N : St → Hp → Prop, (∀ σ' H', N σ' H' → ∃ m', m' < m ∧ W (i + 1) m' σ' H') ∧ ∀ x H', (Ite K a).yld i H x H' → g x σ H' fun σ2 H2 => tb { D with nx := N, ct := N, bk := D.nx } σ2 H2) := by
  refine ⟨fun i m σ H => m = xs.length - i ∧ i ≤ xs.length ∧ Pv i σ H, ⟨xs.length, by simp, Nat.zero_le _, h0⟩, ?_⟩
  rintro i m σ H ⟨rfl, le, p⟩
  have q := hl i σ H le p
  by_cases lt : i < xs.length
  · refine .inr ⟨⟨xs, xs[i], q, by simp [lt]⟩, Pv (i + 1), fun σ' H' p' => ⟨xs.length - (i + 1), by omega, rfl, lt, p'⟩, ?_⟩
    rintro y H' ⟨T, x, rfl, nT, rfl, sure⟩
    exact hs i x σ H T (sure xs q) p nT
  · have e : i = xs.length := by omega
    subst e
    exact .inl ⟨⟨xs, q, Nat.le_refl _⟩, hd σ H p⟩
end L2

set_option maxRecDepth 100000
set_option maxHeartbeats 4000000
/-! for i, x in enumerate(a tuple), and in enumerate(a list or a tuple). -/
namespace PySem
open Sem (wp)
open AutoSeq1 (wpAny_loadPart')
theorem meets_enumerate1 {v : Value} {o : Obj} {H : Heap → Prop} (B : Begins v o H) :
    Meets (Builtin.«enumerate.__new__» ⟨[.type "enumerate", v], []⟩) (fun _ R s => H s.heap ∧
      R (.ok (.ret (.ref (s.heap.push o).objs.size))) { s with heap := (s.heap.push o).push { cls := .type "enumerate", data := .fields #[.none, .bool false, .ref s.heap.objs.size, rawInt 0, .none, .none] } }) :=
  .of_wp fun prog w A R s h => by
    obtain ⟨hp, g, d, tk, os⟩ := s
    obtain ⟨h1, h⟩ := h
    have hsub := sub_enumerate
    have it : ∀ {A' : Around} {E : Value → Shared → Prop} {Q : Value → Shared → Prop}, Q (.ref hp.objs.size) ⟨hp.push o, g, d, tk, os⟩ → wpAny (model prog w) A' (pyIter v) Q E ⟨hp, g, d, tk, os⟩ :=
      fun q => B.iter prog w _ _ ⟨hp, g, d, tk, os⟩ _ h1 q
    wp_walk using it
    refine wpAny_stack_any fun st => wpAny_pure ?_
    split
    · rename_i c _ _ _ _ _
      cases (c == Value.type "enumerate") <;> (wp_walk using it; exact ⟨_, rfl, h⟩)
    · wp_walk using it
      exact ⟨_, rfl, h⟩
section
variable {prog : Program} {w : World} {A : Around} {E : Value → Shared → Prop} {s : Shared}
theorem enum_begins1 {v : Value} {o : Obj} {H : Heap → Prop} {Q : Value → Shared → Prop} (B : Begins v o H) (h1 : H s.heap)
    (h : ∀ h', IsEnum h' (s.heap.objs.size + 1) s.heap.objs.size 0 .none → h'.get? s.heap.objs.size = some o → h'.objs.size = s.heap.objs.size + 2 →
      (∀ b o, s.heap.get? b = some o → h'.get? b = some o) → Q (.ref (s.heap.objs.size + 1)) { s with heap := h' }) :
    wpAny (model prog w) A (call (.type "enumerate") [v]) Q E s := by
  refine callType_new F.called_enumerate (by decide) (F.typeCall_enumerate_1 _) (F.newCall_enumerate_1 _) (fun obj => F.args_object_init_2 obj _) F.entry_enumerate_new (meets_enumerate1 B) ⟨h1, ?_⟩
  have hz : (s.heap.push o).objs.size = s.heap.objs.size + 1 := Heap.size_push ..
  show _ ∧ _
  rw [hz]
  have he : IsEnum ((s.heap.push o).push { cls := .type "enumerate", data := .fields #[.none, .bool false, .ref s.heap.objs.size, rawInt 0, .none, .none] }) (s.heap.objs.size + 1) s.heap.objs.size 0 .none := by
    have := Heap.get?_push_size (s.heap.push o) (o := { cls := .type "enumerate", data := .fields #[.none, .bool false, .ref s.heap.objs.size, rawInt 0, .none, .none] }) rfl
    rw [hz] at this
    exact this
  exact ⟨⟨_, he, rfl⟩, h _ he (Heap.get?_push_of_some _ (Heap.get?_push_size _ B.free)) (by rw [Heap.size_push, hz]) fun b o x => Heap.get?_push_of_some _ (Heap.get?_push_of_some _ x)⟩
end
end PySem
namespace L2
open PySem PySem.Spec PyProof.Rows
def IteT (K : PySem.W.Frag) (a : Addr) : It :=
  ⟨fun i H => ∃ (xs : List V) (x : V), SqT K H a xs ∧ xs[i]? = some x, fun i H v H' => ∃ T x, v = .ref T ∧ H T = none ∧ H' = upd H T (.tup [.int (i : Nat), x]) ∧ ∀ xs, SqT K H a xs → xs[i]? = some x, fun i H => ∃ xs : List V, SqT K H a xs ∧ xs.length ≤ i⟩
theorem tup_apart {h : Heap} {a it : Addr} {i : Nat} {items : Array Value} (x : h.IsTuple a items) (y : h.IsTupleIter it a i) : a ≠ it := fun e => by
  subst e
  obtain ⟨o, h1, c1, _⟩ := x
  obtain ⟨u, h2, c2, _⟩ := y
  rw [h1] at h2
  cases h2
  rw [c1] at c2
  exact absurd c2 (by decide)
theorem turn_enumT {P : Program} {w : World} {K : PySem.W.Frag} {elts : List Expr} {kk : Nat} {tpos : Pos} (a e it : Addr) :
    Turn P w K (.Tuple elts kk tpos) (IteT K a) [e, it] e (fun i h => (∃ old, IsEnum h e it ((i : Nat) : Int) old) ∧ h.IsTupleIter it a i ∧ e ≠ it ∧ e ≠ a) where
  mem := by simp
  obj := fun i h st b hb => by
    obtain ⟨⟨old, he⟩, ⟨o, ho, hc, hd⟩, _⟩ := st
    rcases (by simpa using hb : b = e ∨ b = it) with z | z
    · rw [z]; exact ⟨_, he, fun v q => nomatch q⟩
    · rw [z]; exact ⟨o, ho, fun v q => by rw [hd] at q; cases q⟩
  keep := fun i h h' st k => let ⟨⟨old, he⟩, hi, hne⟩ := st; ⟨⟨old, k e (by simp) _ he⟩, hi.at fun o q => k it (by simp) o q, hne⟩
  item := by
    intro X hP hw hK hc i pins s σ H E I hf st hg
    subst hP hw hK
    obtain ⟨⟨old, he⟩, hit, hne, hna⟩ := st
    obtain ⟨xs, x, hq, hx⟩ := hg
    obtain ⟨its, rv, p, hz⟩ := I.tuple hq
    obtain ⟨u, hu, ru⟩ := rv.get hx
    have li : i < its.toArray.size := by
      have := (List.getElem?_eq_some_iff.mp hu).1
      simpa using this
    have tp : s.heap.IsTuple a its.toArray := p
    have hel : e < s.heap.objs.size := Heap.lt_size he
    have hil : it < s.heap.objs.size := by obtain ⟨_, q, _⟩ := hit; exact Heap.lt_size q
    have D : Draws X.prog X.w X.A.in1 it [it, a] its.toArray.size (fun i v => its.toArray[i]? = some v) (fun i h => h.IsTupleIter it a i ∧ h.IsTuple a its.toArray) := Draws.tuple (A := X.A.in1) (show X.A.in1.handled = none from I.ok.hd hc) it a (tup_apart tp hit) its.toArray
    refine wpAny_pyNext_enum_itemD D he ⟨hit, tp⟩ li hne (by simp [hne, hna]) fun x2 h' tk hx2 ho hs hT hsz hk => ?_
    obtain rfl : u = x2 := by
      have q : its[i]? = some x2 := by simpa using hx2
      rw [hu] at q
      exact Option.some.inj q
    obtain ⟨hit', tp'⟩ := hs
    refine ⟨_, rfl, wpAny_letOwnedTupleGo_enum (s := { s with heap := h', toks := tk + 1 }) ho fun h'' he' sb => ?_⟩
    have hT2 : h''.get? s.heap.objs.size = some { cls := .type "tuple", data := .seq #[.int i tk, u] } := (sb.2 _ (Nat.ne_of_gt hel)).trans hT
    have new : ObjOk X.prog X.w (upd H s.heap.objs.size (.tup [.int (i : Nat), x])) h'' s.heap.objs.size (.tup [.int (i : Nat), x]) :=
      ⟨by show 2 ≤ sizeLine; decide, [.int i tk, u], .cons ⟨_, rfl⟩ (.cons ru .nil), ⟨_, hT2, rfl, _, rfl⟩⟩
    have I1 : Inv X pins σ (upd H s.heap.objs.size (.tup [.int (i : Nat), x])) { s with heap := h'', toks := tk + 1 } :=
      I.turnedNew (ch := [e, it]) (fun b ob hb q => (sb.2 b (fun z => hb (by simp [z]))).trans (hk b ob (fun z => hb (by simp [z])) (fun z => hb (by simp [z])) q)) hf (Nat.le_refl _) new
    refine ⟨.ref s.heap.objs.size, _, I1, rfl, ⟨_, x, rfl, I.hok.fresh (Nat.le_refl _), rfl, fun ys hy => by rw [I.tuple_inj hy hq]; exact hx⟩, ⟨⟨u, ?_⟩, hit'.at fun o q => (sb.2 it (Ne.symm hne)).trans q, hne, hna⟩, fun b hb => ?_⟩
    · rw [show ((i + 1 : Nat) : Int) = (i : Int) + 1 by omega]
      exact he'
    · have hb' : b < s.heap.objs.size := by
        rcases (by simpa using hb : b = e ∨ b = it) with z | z
        · rw [z]; exact hel
        · rw [z]; exact hil
      rw [upd_ne (Nat.ne_of_lt hb')]
      exact (hf b hb).1
  done := by
    intro X hP hw hK hc i pins s σ H E I hf st hg
    subst hP hw hK
    obtain ⟨⟨old, he⟩, hit, hne, hna⟩ := st
    obtain ⟨xs, hq, hx⟩ := hg
    obtain ⟨its, rv, p, hz⟩ := I.tuple hq
    have tp : s.heap.IsTuple a its.toArray := p
    obtain ⟨f0, f1, f2, f3, f4, f5⟩ := hf it (by simp)
    have hl := rv.length
    have D : Draws X.prog X.w X.A.in1 it [it, a] i (fun _ v => False) (fun j h => j = i ∧ h.IsTupleIter it a i ∧ h.IsTuple a its.toArray) :=
      { live := fun _ _ st => let ⟨o, ho, _⟩ := st.2.1; ⟨o, ho⟩
        frame := fun _ _ _ st hk => ⟨st.1, st.2.1.at fun o e => hk it (by simp) o e, st.2.2.at fun o e => hk a (by simp) o e⟩
        item := fun j s Q E hj st hQ => absurd st.1 (by omega)
        done := fun s Q E st hE => wpAny_nextOf_tuple_end (A := X.A.in1) (show X.A.in1.handled = none from I.ok.hd hc) st.2.1 st.2.2 (by simp; omega) hE }
    exact wpAny_pyNext_enum_endD D he ⟨rfl, hit, tp⟩ fun h' eb => ⟨rfl, I.turned (t' := s.toks) (fun b o hb q => eb b o hb q) f0 f1 f3 f4 f5⟩
  self := fun A i s Q E st h => let ⟨⟨_, he⟩, _⟩ := st; wpAny_pyIter_enum he h
/-- a list (true) or a tuple -/
def SqB (K : PySem.W.Frag) (b : Bool) (H : Hp) (a : Addr) (xs : List V) : Prop := match b with
  | true => SqL K H a xs
  | false => SqT K H a xs
theorem SqV.sqb {K : PySem.W.Frag} {H : Hp} {a : Addr} {xs : List V} (h : SqV K H a xs) : ∃ b, SqB K b H a xs := h.elim (fun h => ⟨true, h⟩) fun h => ⟨false, h⟩
theorem SqB.sqv {K : PySem.W.Frag} {H : Hp} {a : Addr} {xs : List V} : ∀ {b : Bool}, SqB K b H a xs → SqV K H a xs
  | true, h => .inl h
  | false, h => .inr h
theorem SqB.same {K : PySem.W.Frag} {H H' : Hp} {a : Addr} {xs : List V} (s : Same H H') : ∀ {b : Bool}, SqB K b H a xs → SqB K b H' a xs
  | true, h => SqL.same h s
  | false, h => SqT.same h s
def IteB (K : PySem.W.Frag) (b : Bool) (a : Addr) : It := match b with
  | true => Ite K a
  | false => IteT K a
def iEnumV (K : PySem.W.Frag) (ta : TA) : TI := fun σ H R => ta σ H fun vs H1 => ∃ a xs b, vs = [.ref a] ∧ SqB K b H1 a xs ∧ R (IteB K b a) H1
theorem pi_enumV {X : Cx} {e : Expr} {ta : TA} {p pos tpos : Pos} {elts : List Expr} {kk : Nat} (hg : Gl X "enumerate") (hm : X.mg "enumerate" = none) (ha : PA X [e] ta) (hs : starEach [e] X.env = [(false, eval e X.env)] := by rfl) :
    PI X (.Tuple elts kk tpos) (.Call (.Name "enumerate" p) [e] [] pos) (iEnumV X.K ta) := by
  refine ⟨fun pins s σ H R I h => ?_⟩
  refine Call_ (ld_blt I hg hm boot_enumerate (PyProof.Rows.callWith_type1 (thn (ha.run pos pins s σ H _ I h) fun us s1 ⟨vs, H1, I1, r1, q1⟩ => ?_) hs rfl))
  obtain ⟨a, xs, b, ex, hq, q⟩ := q1
  subst ex
  cases r1 with
  | cons r rr =>
    cases rr
    cases r
    have fp : ∀ b ∈ [s1.heap.objs.size + 1, s1.heap.objs.size], FpOk X pins H1 b := fun b hb => by
      have hle : s1.heap.objs.size ≤ b := by
        rcases (by simpa using hb : b = s1.heap.objs.size + 1 ∨ b = s1.heap.objs.size) with z | z
        · rw [z]; exact Nat.le_add_right _ _
        · rw [z]; exact Nat.le_refl _
      exact I1.fpOk hle (I1.hok.fresh hle)
    cases b with
    | true =>
      obtain ⟨its, rv, p', hz⟩ := I1.list hq
      refine call_enumerate_list p'.isList fun h' he hit hsz hk => wpAny_pyIter_enum he ?_
      exact ⟨s1.heap.objs.size + 1, _, _, _, H1, rfl, I1.kept (t' := s1.toks) hk, turn_enum a (s1.heap.objs.size + 1) s1.heap.objs.size, ⟨⟨.none, he⟩, hit, Nat.succ_ne_self _⟩, fp, q⟩
    | false =>
      obtain ⟨its, rv, p', hz⟩ := I1.tuple hq
      have tp : s1.heap.IsTuple a its.toArray := p'
      have hal : a < s1.heap.objs.size := by obtain ⟨_, q, _⟩ := tp; exact Heap.lt_size q
      refine enum_begins1 (begins_tuple a its.toArray) tp fun h' he hit hsz hk => wpAny_pyIter_enum he ?_
      exact ⟨s1.heap.objs.size + 1, _, _, _, H1, rfl, I1.kept (t' := s1.toks) hk, turn_enumT a (s1.heap.objs.size + 1) s1.heap.objs.size, ⟨⟨.none, he⟩, ⟨_, hit, rfl, rfl⟩, Nat.succ_ne_self _, Nat.ne_of_gt (Nat.lt_succ_of_lt hal)⟩, fp, q⟩
theorem for_enumV {K : PySem.W.Frag} {a : Addr} {xs : List V} {g : TG} {tb : TS} {D : Ends} {σ : St} {H : Hp} {b : Bool} (Pv : Nat → St → Hp → Prop) (h0 : Pv 0 σ H) (hl : ∀ i σ H, i ≤ xs.length → Pv i σ H → SqB K b H a xs)
    (hs : ∀ i x σ H T, xs[i]? = some x → Pv i σ H → H T = none → g (.ref T) σ (upd H T (.tup [.int (i : Nat), x])) fun σ2 H2 => tb { D with nx := Pv (i + 1), ct := Pv (i + 1), bk := D.nx } σ2 H2) (hd : ∀ σ H, Pv xs.length σ H → D.nx σ H) :
    ∃ W : Nat → Nat → St → Hp → Prop, (∃ m, W 0 m σ H) ∧ ∀ i m σ H, W i m σ H →
      ((IteB K b a).stop i H ∧ D.nx σ H) ∨ ((IteB K b a).go i H ∧ ∃ N : St → Hp → Prop, (∀ σ' H', N σ' H' → ∃ m', m' < m ∧ W (i + 1) m' σ' H') ∧ ∀ x H', (IteB K b a).yld i H x H' → g x σ H' fun σ2 H2 => tb { D with nx := N, ct := N, bk := D.nx } σ2 H2) := by
  cases b with
  | true => exact for_enumX Pv h0 hl hs hd
  | false =>
    refine ⟨fun i m σ H => m = xs.length - i ∧ i ≤ xs.length ∧ Pv i σ H, ⟨xs.length, by simp, Nat.zero_le _, h0⟩, ?_⟩
    rintro i m σ H ⟨rfl, le, p⟩
    have q : SqT K H a xs := hl i σ H le p
    by_cases lt : i < xs.length
    · refine .inr ⟨⟨xs, xs[i], q, by simp [lt]⟩, Pv (i + 1), fun σ' H' p' => ⟨xs.length - (i + 1), by omega, rfl, lt, p'⟩, ?_⟩
      rintro y H' ⟨T, x, rfl, nT, rfl, sure⟩
      exact hs i x σ H T (sure xs q) p nT
    · have e : i = xs.length := by omega
      subst e
      exact .inl ⟨⟨xs, q, Nat.le_refl _⟩, hd σ H p⟩
end L2

set_option maxRecDepth 100000
set_option maxHeartbeats 4000000
namespace K55
open PySem PySem.Spec PyProof.Rows L2 He VH RZ
/-! which Writer is wrong -/
abbrev sWw : Stmt := top 49
abbrev FnWw (K : PySem.W.Frag) (fd : FuncData) : Prop := FnP K "wrong_writer" sWw (ga K "wrong_writer") fd
theorem bWw {K : PySem.W.Frag} {fd : FuncData} (F : FnWw K fd) : Binds K fd ["writers"] [] := FunD.bindsN F fun _ _ _ _ _ _ us hl => match us, hl with | [_], _ => rfl
theorem WrAt.ty {K : PySem.W.Frag} {mg : Str → Option Value} {w : World} (T : Txt K mg w) {H : Hp} {a : Addr} {z : Str} {xs : List V} {b : Bool} (h : WrAt K H a z xs b) : TyX K H (.ref a) (.ref (ga K "Writer")) := by
  obtain ⟨dx, _, h, _⟩ := h
  exact .base (.ins h T.c_Writer T.o_Writer.cls T.dc1 T.dc2 T.o_Writer.mro)
theorem WrAt.same {K : PySem.W.Frag} {H H' : Hp} {a : Addr} {z : Str} {xs : List V} {b : Bool} (h : WrAt K H a z xs b) (s : Same H H') : WrAt K H' a z xs b := by
  obtain ⟨dx, t, h1, h2⟩ := h
  exact ⟨dx, t, s _ _ h1, s _ _ h2⟩
/-- no instance of C -/
def NoC (K : PySem.W.Frag) (C : Str) (H : Hp) (x : V) : Prop := ∀ H', Same H H' → ∃ t, TyX K H' x t ∧ PySem.W.kitOne K t (.ref (ga K C)) = some false
theorem NoC.same {K : PySem.W.Frag} {C : Str} {H H' : Hp} {x : V} (h : NoC K C H x) (s : Same H H') : NoC K C H' x := fun H2 s2 => h H2 (s.trans s2)
/-- a Writer of this name, or none -/
def IsWr (K : PySem.W.Frag) (H : Hp) (x : V) : Option Str → Prop
  | some z => ∃ a xs b, x = .ref a ∧ WrAt K H a z xs b
  | none => NoC K "Writer" H x
theorem IsWr.same {K : PySem.W.Frag} {H H' : Hp} {x : V} (s : Same H H') : ∀ {r : Option Str}, IsWr K H x r → IsWr K H' x r
  | some _, ⟨a, xs, b, e, h⟩ => ⟨a, xs, b, e, h.same s⟩
  | none, h => NoC.same h s
/-- each of a list -/
def Each {α : Type} (P : Hp → V → α → Prop) (H : Hp) (xs : List V) (zs : List α) : Prop := xs.length = zs.length ∧ ∀ (i : Nat) (x : V), xs[i]? = some x → ∃ r, zs[i]? = some r ∧ P H x r
theorem Each.same {α : Type} {P : Hp → V → α → Prop} {H H' : Hp} {xs : List V} {zs : List α} (h : Each P H xs zs) (k : ∀ x r, P H x r → P H' x r) : Each P H' xs zs := ⟨h.1, fun i x e => by
  obtain ⟨r, er, p⟩ := h.2 i x e
  exact ⟨r, er, k _ _ p⟩⟩
/-- right at k: a name, not told before -/
def okN (zs : List (Option Str)) (k : Nat) : Bool := match zs[k]? with
  | some (some z) => !(zs.take k).contains (some z)
  | _ => false
def badN (zs : List (Option Str)) : Option Nat := (List.range zs.length).find? fun k => !okN zs k
def numV : Option Nat → V
  | some k => .int k
  | none => .non
theorem badN_some {zs : List (Option Str)} {i : Nat} (l : i < zs.length) (f : okN zs i = false) (ok : ∀ m, m < i → okN zs m = true) : badN zs = some i := by
  unfold badN
  rw [List.find?_range_eq_some]
  refine ⟨by rw [f]; rfl, List.mem_range.mpr l, fun m hm => ?_⟩
  rw [ok m hm]
  rfl
theorem badN_none {zs : List (Option Str)} (ok : ∀ m, m < zs.length → okN zs m = true) : badN zs = none := by
  unfold badN
  rw [List.find?_eq_none]
  intro m hm
  rw [ok m (List.mem_range.mp hm)]
  simp
theorem has_fm {zs : List (Option Str)} {z : Str} : (zs.filterMap id).contains z = zs.contains (some z) := by
  rw [Bool.eq_iff_iff, List.contains_iff_mem, List.contains_iff_mem, List.mem_filterMap]
  constructor
  · rintro ⟨a, h, e⟩
    cases e
    exact h
  · exact fun h => ⟨_, h, rfl⟩
def spWw (K : PySem.W.Frag) : Sp := fun vs H Q _ => ∃ (a : Addr) (xs : List V) (zs : List (Option Str)), vs = [.ref a] ∧ SqV K H a xs ∧ Each (IsWr K) H xs zs ∧ xs.length ≤ 1000 ∧ ∀ H', Same H H' → Q (numV (badN zs)) H'
section
variable {P : Program} {w : World} {K : PySem.W.Frag} {mg : Str → Option Value} {base : Heap} {f : Addr} {fd : FuncData}
abbrev nWw : List Str := ["writers", "names", "at", "writer"]
theorem scWw : FnScope nWw ["writers"] (defScope sWw) := ⟨rfl, rfl, rfl, by decide +kernel, rfl, by decide +kernel, by decide +kernel⟩
theorem ok_ww (F : FnP K "wrong_writer" sWw f fd) (T : Txt K mg w) : FnOk P w K mg base CX0 1 f fd ["writers"] (spWw K) := by
  refine F.ok scWw (fun vs H Q E h => ?_) (fun cdv A outer s H vs Q E hr h => ?_)
  · obtain ⟨_, _, _, rfl, _⟩ := h
    rfl
  refine ⟨_, PSs.nox (pss_cons (ps_set (i := 1) scWw.nd rfl (Or.inl rfl) (pe_lst pa_nil))
    (pss_cons (ps_for PassesOwn.never rfl (pi_enumV (by rfl) T.g_enumerate (pa_cons (pv 0) pa_nil)) (pg_tup rfl (pgs_cons (pg_name (i := 2) scWw.nd rfl (Or.inl rfl)) (pgs_cons (pg_name (i := 3) scWw.nd rfl (Or.inl rfl)) pgs_nil)))
      (pss_cons (ps_if (PW.pt (pw_or (pt_not (pt_val (pe_callB call_isi (by rfl) T.g_isinstance boot_isinstance (pa_cons (pv 3) (pa_cons (pe_glob (v := .ref (ga K "Writer")) (by rfl) T.m_Writer rfl) pa_nil)))))
          (pw_or1 (pt_cmpR op_in_seq (pe_fld (pv 3) (by rfl)) (pv 1) (by rfl))))) (pss_one (ps_ret (pv 2))) pss_nil)
      (pss_one (ps_expr (pe_bm PySem.F.plainAttrs_list PySem.F.slot_list_append PySem.F.type_list_append mt_append (pv 1) (pa_cons (pe_fld (pv 3) (by rfl)) pa_nil))))))
    (pss_one (ps_ret pe_non)))), ?_⟩
  obtain ⟨a, xs, zs, rfl, hv, he, lx, k⟩ := h
  have big : 1000 < sizeLine := by decide
  obtain ⟨b, hb⟩ := hv.sqb
  have ll := he.1
  refine ⟨(show 0 ≤ sizeLine by decide), fun l nl => ?_⟩
  have S0 := Same.new (o := .lst []) nl
  refine ⟨_, rfl, a, xs, b, rfl, SqB.same S0 hb, ?_⟩
  refine for_enumV (K := K) (xs := xs) (fun i σ G => ∃ v2 v3 : Option V, σ = [some (.ref a), some (.ref l), v2, v3] ∧ Same H G ∧ G l = some (.lst (((zs.take i).filterMap id).map V.str)) ∧ ∀ m, m < i → okN zs m = true)
    ⟨_, _, rfl, S0, upd_same, fun m hm => absurd hm (Nat.not_lt_zero m)⟩ (fun i σ G _ g => ?_) (fun i x σ G Tt hx g nT => ?_) (fun σ G g => ?_)
  · obtain ⟨_, _, _, sG, _⟩ := g
    exact SqB.same sG hb
  · obtain ⟨v2, v3, rfl, sG, hl, ok⟩ := g
    have li := (List.getElem?_eq_some_iff.mp hx).1
    obtain ⟨r, er, hr⟩ := he.2 i x hx
    have sT := Same.new (o := .tup [.int (i : Nat), x]) nT
    have S1 := sG.trans sT
    have hl1 := sT _ _ hl
    have hT : upd G Tt (.tup [.int (i : Nat), x]) Tt = some (.tup [.int (i : Nat), x]) := upd_same
    generalize upd G Tt (.tup [.int (i : Nat), x]) = G1 at S1 hT hl1 ⊢
    clear sT hl nT
    refine ⟨Tt, _, rfl, SqT.of hT, rfl, _, _, rfl, _, _, rfl, rfl, ?_⟩
    have hr1 := hr.same S1
    have stop : okN zs i = false → Q (.int i) G1 := fun e => by
      have := k G1 S1
      rw [badN_some (by omega) e ok] at this
      exact this
    cases r with
    | none =>
      obtain ⟨t, ty, kk⟩ := hr1 G1 (Same.refl _)
      exact ⟨_, rfl, _, _, _, _, false, rfl, .own (ga K "Writer"), ty, kk, false, rfl, iteT ⟨_, rfl, stop (by unfold okN; rw [er])⟩⟩
    | some z =>
      obtain ⟨wa, ys, wb, rfl, hw⟩ := hr1
      have ty := WrAt.ty T hw
      obtain ⟨dx, t1, hwa, _⟩ := id hw
      refine ⟨_, rfl, _, _, _, _, true, rfl, .own (ga K "Writer"), ty, T.o_Writer.kk, true, rfl, iteF ?_⟩
      refine ⟨_, rfl, wa, _, dx, _, _, rfl, hwa, T.c_Writer, T.n_Writer_name, rfl, _, rfl, l, _, rfl, .inl (SqL.of hl1), rfl, flat_strs, ?_⟩
      rw [inV_strs, has_fm]
      have eo : okN zs i = !(zs.take i).contains (some z) := by unfold okN; rw [er]
      cases c : (zs.take i).contains (some z) with
      | true => exact ⟨_, rfl, iteT ⟨_, rfl, stop (by rw [eo, c]; rfl)⟩⟩
      | false =>
        refine ⟨_, rfl, iteF ⟨_, rfl, .inl ⟨rfl, _, SqL.of hl1⟩, _, rfl, wa, _, dx, _, _, rfl, hwa, T.c_Writer, T.n_Writer_name, rfl, l, _, _, rfl, rfl, hl1, ?_, _, _, rfl, same_put S1 nl, ?_, fun m hm => ?_⟩⟩
        · have := List.length_filterMap_le id (zs.take i)
          rw [List.length_take] at this
          rw [List.length_map]
          omega
        · rw [upd_same, List.take_succ, er]
          simp
        · by_cases q : m = i
          · rw [q, eo, c]; rfl
          · exact ok m (by omega)
  · obtain ⟨v2, v3, rfl, sG, hl, ok⟩ := g
    have := k G sG
    rw [badN_none (fun m hm => ok m (by omega))] at this
    exact this
end
end K55

set_option maxRecDepth 100000
set_option maxHeartbeats 4000000
/-! x in y, x not in y: trees, y a list or a tuple. -/
namespace L2
open PySem PySem.Spec PyProof.Rows SeqAt
section
variable {X : Cx}
def rInV (K : PySem.W.Frag) (neg : Bool) : R2 := fun x y H Q => ∃ (u : Tr) (ts : List Tr) (b : Bool) (p : Addr) (xs : List V), At K H x u ∧ y = .ref p ∧ SqV K H p xs ∧ Ats K H xs ts ∧ Tr.anyEq ts u = some b ∧ Tr.deps ts ≤ 60 ∧ Q (.bl (if neg then !b else b)) H
theorem op_inV (hu : X.A.units + 65 < cLine) : OpR X (compareOp .In) (rInV X.K false) := by
  intro pins s σ H x y v u Q I rx ry h
  obtain ⟨t, ts, b, a, xs, hx, rfl, hv, hs, e, d, q⟩ := h
  cases (show u = Value.ref a from ry)
  rcases hv with hl | hl
  · obtain ⟨vs, r, p, _⟩ := I.list hl
    obtain ⟨f, hf, ef, _⟩ := in_T I hx rx (A := X.A.in1) e hs r (by show X.A.units + 1 + _ < cLine; omega)
    refine SeqAt.in_listAt f p.isList (fun y hy => hf y (by simpa using hy)) ?_
    rw [show vs.toArray.any f = b from by rw [← ef]; simp]
    exact ⟨.bl b, H, I, rfl, q⟩
  · obtain ⟨vs, r, p, _⟩ := I.tuple hl
    obtain ⟨f, hf, ef, _⟩ := in_T I hx rx (A := X.A.in1) e hs r (by show X.A.units + 1 + _ < cLine; omega)
    refine SeqAt.in_tupleAt f p (fun y hy => hf y (by simpa using hy)) ?_
    rw [show vs.toArray.any f = b from by rw [← ef]; simp]
    exact ⟨.bl b, H, I, rfl, q⟩
theorem op_notInV (hu : X.A.units + 65 < cLine) : OpR X (compareOp .NotIn) (rInV X.K true) := by
  intro pins s σ H x y v u Q I rx ry h
  obtain ⟨t, ts, b, a, xs, hx, rfl, hv, hs, e, d, q⟩ := h
  cases (show u = Value.ref a from ry)
  rcases hv with hl | hl
  · obtain ⟨vs, r, p, _⟩ := I.list hl
    obtain ⟨f, hf, ef, _⟩ := in_T I hx rx (A := X.A.in1) e hs r (by show X.A.units + 1 + _ < cLine; omega)
    refine SeqAt.notIn_listAt f p.isList (fun y hy => hf y (by simpa using hy)) ?_
    rw [show vs.toArray.any f = b from by rw [← ef]; simp]
    exact ⟨.bl (!b), H, I, rfl, q⟩
  · obtain ⟨vs, r, p, _⟩ := I.tuple hl
    obtain ⟨f, hf, ef, _⟩ := in_T I hx rx (A := X.A.in1) e hs r (by show X.A.units + 1 + _ < cLine; omega)
    refine SeqAt.notIn_tupleAt f p (fun y hy => hf y (by simpa using hy)) ?_
    rw [show vs.toArray.any f = b from by rw [← ef]; simp]
    exact ⟨.bl (!b), H, I, rfl, q⟩
end
end L2

set_option maxRecDepth 100000
set_option maxHeartbeats 4000000
namespace K55
open PySem PySem.Spec PyProof.Rows L2 He VH RZ
/-! ways back -/
abbrev sWay : Stmt := top 51
abbrev sWy : Stmt := top 52
abbrev FnWay (K : PySem.W.Frag) (fd : FuncData) : Prop := FnP K "is_way" sWay (ga K "is_way") fd
abbrev FnWy (K : PySem.W.Frag) (fd : FuncData) : Prop := FnP K "wrong_way" sWy (ga K "wrong_way") fd
theorem bWay {K : PySem.W.Frag} {fd : FuncData} (F : FnWay K fd) : Binds K fd ["value", "many"] [] := FunD.bindsN F fun _ _ _ _ _ _ us hl => match us, hl with | [_, _], _ => rfl
theorem bWy {K : PySem.W.Frag} {fd : FuncData} (F : FnWy K fd) : Binds K fd ["back", "many"] [] := FunD.bindsN F fun _ _ _ _ _ _ us hl => match us, hl with | [_, _], _ => rfl
/-- a pair that can be a way -/
def wayB (r1 r2 : Option Int) (m : Int) : Bool := btwB r1 0 (m - 1) && (match r1 with
  | some i => btwB r2 0 (i - 1)
  | none => false)
def spWay (K : PySem.W.Frag) : Sp := fun vs H Q _ => ∃ (p : Addr) (x y : V) (r1 r2 : Option Int) (m : Int), vs = [.ref p, .int m] ∧ SqT K H p [x, y] ∧ isI K H x r1 ∧ isI K H y r2 ∧ Q (.bl (wayB r1 r2 m)) H
/-- a pair of integers -/
def WyAt (K : PySem.W.Frag) (H : Hp) (x : V) (r : Int × Int) : Prop := ∃ p, x = .ref p ∧ SqT K H p [.int r.1, .int r.2]
theorem WyAt.same {K : PySem.W.Frag} {H H' : Hp} {x : V} {r : Int × Int} (h : WyAt K H x r) (s : Same H H') : WyAt K H' x r := by
  obtain ⟨p, e, h⟩ := h
  exact ⟨p, e, h.same s⟩
def wyT (r : Int × Int) : Tr := .tup [.int r.1, .int r.2]
theorem WyAt.at {K : PySem.W.Frag} {H : Hp} {x : V} {r : Int × Int} (h : WyAt K H x r) : At K H x (wyT r) := by
  obtain ⟨p, rfl, h⟩ := h
  exact .tup h (.cons .int (.cons .int .nil))
theorem wy_eq (r s : Int × Int) : Tr.eq (wyT r) (wyT s) = some (decide (r = s)) := by
  obtain ⟨a, b⟩ := r
  obtain ⟨c, d⟩ := s
  simp only [wyT, Tr.eq, Tr.eqs, Bool.and_true]
  congr 1
  by_cases h1 : a = c <;> by_cases h2 : b = d <;> simp [h1, h2]
theorem wy_any (rs : List (Int × Int)) (r : Int × Int) : Tr.anyEq (rs.map wyT) (wyT r) = some (rs.contains r) := by
  induction rs with
  | nil => rfl
  | cons a rs ih =>
    show (match Tr.eq (wyT a) (wyT r), Tr.anyEq (rs.map wyT) (wyT r) with
      | some b, some c => some (b || c)
      | _, _ => none) = _
    rw [wy_eq, ih, List.contains_cons]
    show some (decide (a = r) || rs.contains r) = some ((r == a) || rs.contains r)
    congr 2
    by_cases e : a = r
    · subst e; simp
    · rw [decide_eq_false e]
      exact (beq_eq_false_iff_ne.mpr fun z => e z.symm).symm
theorem wy_deps (rs : List (Int × Int)) : Tr.deps (rs.map wyT) ≤ 60 := by
  have : Tr.deps (rs.map wyT) ≤ 1 := by
    induction rs with
    | nil => exact Nat.zero_le _
    | cons a rs ih =>
      show max (Tr.dep (wyT a)) (Tr.deps (rs.map wyT)) ≤ 1
      exact Nat.max_le.mpr ⟨Nat.le_of_ble_eq_true rfl, ih⟩
  omega
theorem wys_ats {K : PySem.W.Frag} {H : Hp} : ∀ {xs : List V} {rs : List (Int × Int)}, Each (WyAt K) H xs rs → Ats K H xs (rs.map wyT)
  | [], [], _ => .nil
  | [], _ :: _, h => absurd h.1 (by simp)
  | _ :: _, [], h => absurd h.1 (by simp)
  | x :: xs, r :: rs, h => by
    obtain ⟨r', e, p⟩ := h.2 0 x rfl
    cases e
    refine .cons p.at (wys_ats ⟨by have := h.1; simpa using this, fun i x e => ?_⟩)
    exact h.2 (i + 1) x e
/-- right at k: a way, not told before -/
def okY (rs : List (Int × Int)) (m : Int) (k : Nat) : Bool := match rs[k]? with
  | some r => wayB (some r.1) (some r.2) m && !(rs.take k).contains r
  | none => false
def badY (rs : List (Int × Int)) (m : Int) : Option Nat := (List.range rs.length).find? fun k => !okY rs m k
theorem badY_some {rs : List (Int × Int)} {mm : Int} {i : Nat} (l : i < rs.length) (f : okY rs mm i = false) (ok : ∀ m, m < i → okY rs mm m = true) : badY rs mm = some i := by
  unfold badY
  rw [List.find?_range_eq_some]
  refine ⟨by rw [f]; rfl, List.mem_range.mpr l, fun m hm => ?_⟩
  rw [ok m hm]
  rfl
theorem badY_none {rs : List (Int × Int)} {mm : Int} (ok : ∀ m, m < rs.length → okY rs mm m = true) : badY rs mm = none := by
  unfold badY
  rw [List.find?_eq_none]
  intro m hm
  rw [ok m (List.mem_range.mp hm)]
  simp
def spWy (K : PySem.W.Frag) : Sp := fun vs H Q _ => ∃ (a : Addr) (xs : List V) (rs : List (Int × Int)) (m : Int), vs = [.ref a, .int m] ∧ SqV K H a xs ∧ Each (WyAt K) H xs rs ∧ xs.length ≤ 1000 ∧ ∀ H', Same H H' → Q (numV (badY rs m)) H'
section
variable {P : Program} {w : World} {K : PySem.W.Frag} {mg : Str → Option Value} {base : Heap} {f : Addr} {fd fdI fdB fdY : FuncData}
theorem scWay : FnScope ["value", "many"] ["value", "many"] (defScope sWay) := ⟨rfl, rfl, rfl, by decide +kernel, rfl, by decide +kernel, by decide +kernel⟩
theorem at0' {x y : V} : atI [x, y] 0 = some x := rfl
theorem at1' {x y : V} : atI [x, y] 1 = some y := rfl
theorem ok_way (F : FnP K "is_way" sWay f fd) (T : Txt K mg w) (FB : FnBtw K fdB) (FI : FnInt K fdI) : FnOk P w K mg base CX0 3 f fd ["value", "many"] (spWay K) := by
  have GB : FnOk P w K mg base CX0 2 (ga K "is_between") fdB ["value", "least", "most"] (spBtw K) := ok_btw FB T FI
  refine F.ok scWay (fun vs H Q E h => ?_) (fun cdv A outer s H vs Q E hr h => ?_)
  · obtain ⟨_, _, _, _, _, _, rfl, _⟩ := h
    rfl
  refine ⟨_, PSs.nox (pss_cons (ps_if (PW.pt (pw_or (pt_not (pt_val (pe_callB call_isi (by rfl) T.g_isinstance boot_isinstance (pa_cons (pv 0) (pa_cons (pe_bltn (v := .ty "tuple") (by rfl) T.g_tuple boot_tuple rfl) pa_nil)))))
      (pw_or (pt_cmpR op_ne (pe_callB call_len_seq (by rfl) T.g_len boot_len (pa_cons (pv 0) pa_nil)) pe_int (nomark _))
      (pw_or1 (pt_not (pt_val (pe_call GB (hr.mono (by decide)) (by rfl) T.m_is_between FB.kp (bBtw FB) .nil pass0 (pa_cons (pe_ix ix_tup (pv 0) pe_int (fun _ _ => rfl)) (pa_cons pe_int (pa_cons (pe_op op_sub (pv 1) pe_int) pa_nil))))))))))
      (pss_one (ps_ret pe_bl)) pss_nil)
    (pss_one (ps_ret (pe_call GB (hr.mono (by decide)) (by rfl) T.m_is_between FB.kp (bBtw FB) .nil pass0 (pa_cons (pe_ix ix_tup (pv 0) pe_int (fun _ _ => rfl)) (pa_cons pe_int (pa_cons (pe_op op_sub (pe_ix ix_tup (pv 0) pe_int (fun _ _ => rfl)) pe_int) pa_nil))))))), ?_⟩
  obtain ⟨p, x, y, r1, r2, m, rfl, hp, h1, h2, q⟩ := h
  refine ⟨_, rfl, _, _, _, _, true, rfl, .ty "tuple", sqT_ty hp, kit_ty (by decide +kernel), true, rfl, iteF ?_⟩
  refine ⟨_, rfl, p, _, rfl, .inr hp, rfl, false, rfl, iteF ?_⟩
  refine ⟨_, rfl, _, _, _, _, rfl, rfl, hp, at0', _, rfl, _, _, rfl, rfl, x, 0, m - 1, r1, rfl, h1, btwB r1 0 (m - 1), rfl, ?_⟩
  unfold wayB at q
  cases b1 : btwB r1 0 (m - 1) with
  | false =>
    rw [b1, Bool.false_and] at q
    exact iteT q
  | true =>
    rw [b1, Bool.true_and] at q
    refine iteF ?_
    rcases h1 with ⟨i, rfl, rfl⟩ | ⟨_, rfl⟩
    · exact ⟨_, rfl, _, _, _, _, rfl, rfl, hp, at1', _, rfl, _, _, _, _, rfl, rfl, hp, at0', _, _, rfl, rfl, y, 0, i - 1, r2, rfl, h2, q⟩
    · cases b1
abbrev nWy : List Str := ["back", "many", "ways", "at", "way"]
theorem scWy : FnScope nWy ["back", "many"] (defScope sWy) := ⟨rfl, rfl, rfl, by decide +kernel, rfl, by decide +kernel, by decide +kernel⟩
theorem ok_wy (F : FnP K "wrong_way" sWy f fd) (T : Txt K mg w) (FY : FnWay K fdY) (FB : FnBtw K fdB) (FI : FnInt K fdI) : FnOk P w K mg base CX0 4 f fd ["back", "many"] (spWy K) := by
  have GY : FnOk P w K mg base CX0 3 (ga K "is_way") fdY ["value", "many"] (spWay K) := ok_way FY T FB FI
  refine F.ok scWy (fun vs H Q E h => ?_) (fun cdv A outer s H vs Q E hr h => ?_)
  · obtain ⟨_, _, _, _, rfl, _⟩ := h
    rfl
  have u65 : (A.deeper (envOfC "wrong_way" (defScope sWy) s.heap.objs.size f cdv)).units + 65 < cLine := by have := hr.un; omega
  refine ⟨_, PSs.nox (pss_cons (ps_set (i := 2) scWy.nd rfl (Or.inl rfl) (pe_lst pa_nil))
    (pss_cons (ps_for PassesOwn.never rfl (pi_enumV (by rfl) T.g_enumerate (pa_cons (pv 0) pa_nil)) (pg_tup rfl (pgs_cons (pg_name (i := 3) scWy.nd rfl (Or.inl rfl)) (pgs_cons (pg_name (i := 4) scWy.nd rfl (Or.inl rfl)) pgs_nil)))
      (pss_cons (ps_if (PW.pt (pw_or (pt_not (pt_val (pe_call GY (hr.mono (by decide)) (by rfl) T.m_is_way FY.kp (bWay FY) .nil pass0 (pa_cons (pv 4) (pa_cons (pv 1) pa_nil)))))
          (pw_or1 (pt_cmpR (op_inV u65) (pv 4) (pv 2) (by rfl))))) (pss_one (ps_ret (pv 3))) pss_nil)
      (pss_one (ps_expr (pe_bm PySem.F.plainAttrs_list PySem.F.slot_list_append PySem.F.type_list_append mt_append (pv 2) (pa_cons (pv 4) pa_nil))))))
    (pss_one (ps_ret pe_non)))), ?_⟩
  obtain ⟨a, xs, rs, mm, rfl, hv, he, lx, k⟩ := h
  have big : 1000 < sizeLine := by decide
  obtain ⟨b, hb⟩ := hv.sqb
  have ll := he.1
  refine ⟨(show 0 ≤ sizeLine by decide), fun l nl => ?_⟩
  have S0 := Same.new (o := .lst []) nl
  refine ⟨_, rfl, a, xs, b, rfl, SqB.same S0 hb, ?_⟩
  refine for_enumV (K := K) (xs := xs) (fun i σ G => ∃ v2 v3 : Option V, σ = [some (.ref a), some (.int mm), some (.ref l), v2, v3] ∧ Same H G ∧ G l = some (.lst (xs.take i)) ∧ ∀ m, m < i → okY rs mm m = true)
    ⟨_, _, rfl, S0, upd_same, fun m hm => absurd hm (Nat.not_lt_zero m)⟩ (fun i σ G _ g => ?_) (fun i x σ G Tt hx g nT => ?_) (fun σ G g => ?_)
  · obtain ⟨_, _, _, sG, _⟩ := g
    exact SqB.same sG hb
  · obtain ⟨v2, v3, rfl, sG, hl, ok⟩ := g
    have li := (List.getElem?_eq_some_iff.mp hx).1
    obtain ⟨r, er, hr⟩ := he.2 i x hx
    have sT := Same.new (o := .tup [.int (i : Nat), x]) nT
    have S1 := sG.trans sT
    have hl1 := sT _ _ hl
    have hT : upd G Tt (.tup [.int (i : Nat), x]) Tt = some (.tup [.int (i : Nat), x]) := upd_same
    generalize upd G Tt (.tup [.int (i : Nat), x]) = G1 at S1 hT hl1 ⊢
    clear sT hl nT
    refine ⟨Tt, _, rfl, SqT.of hT, rfl, _, _, rfl, _, _, rfl, rfl, ?_⟩
    have stop : okY rs mm i = false → Q (.int i) G1 := fun e => by
      have := k G1 S1
      rw [badY_some (by omega) e ok] at this
      exact this
    have eo : okY rs mm i = (wayB (some r.1) (some r.2) mm && !(rs.take i).contains r) := by unfold okY; rw [er]
    obtain ⟨p, rfl, hp⟩ := id (hr.same S1)
    refine ⟨_, rfl, _, rfl, p, .int r.1, .int r.2, some r.1, some r.2, mm, rfl, hp, .inl ⟨_, rfl, rfl⟩, .inl ⟨_, rfl, rfl⟩, wayB (some r.1) (some r.2) mm, rfl, ?_⟩
    cases b1 : wayB (some r.1) (some r.2) mm with
    | false => exact iteT ⟨_, rfl, stop (by rw [eo, b1]; rfl)⟩
    | true =>
      have ets : Each (WyAt K) G1 (xs.take i) (rs.take i) := ⟨by rw [List.length_take, List.length_take, ll], fun j y hy => by
        have lj := (List.getElem?_eq_some_iff.mp hy).1
        rw [List.length_take] at lj
        rw [List.getElem?_take_of_lt (by omega)] at hy ⊢
        obtain ⟨r', e', p'⟩ := he.2 j y hy
        exact ⟨r', e', p'.same S1⟩⟩
      refine iteF ⟨_, rfl, _, rfl, _, _, _, l, _, (hr.same S1).at, rfl, .inl (SqL.of hl1), wys_ats ets, wy_any _ _, wy_deps _, ?_⟩
      show ∃ b, V.bl ((rs.take i).contains r) = .bl b ∧ _
      cases c : (rs.take i).contains r with
      | true => exact ⟨_, rfl, iteT ⟨_, rfl, stop (by rw [eo, c, Bool.not_true, Bool.and_false])⟩⟩
      | false =>
        refine ⟨_, rfl, iteF ⟨_, rfl, .inl ⟨rfl, _, SqL.of hl1⟩, _, rfl, l, _, _, rfl, rfl, hl1, ?_, _, _, rfl, same_put S1 nl, ?_, fun m hm => ?_⟩⟩
        · rw [List.length_take]
          omega
        · rw [upd_same, List.take_succ, hx]
          rfl
        · by_cases q : m = i
          · rw [q, eo, c, b1]; rfl
          · exact ok m (by omega)
  · obtain ⟨v2, v3, rfl, sG, hl, ok⟩ := g
    have := k G sG
    rw [badY_none (fun m hm => ok m (by omega))] at this
    exact this
end
end K55

set_option maxRecDepth 100000
set_option maxHeartbeats 4000000
namespace K55
open PySem PySem.Spec PyProof.Rows L2 He VH RZ
/-! which Phase is wrong -/
abbrev sWp : Stmt := top 50
abbrev FnWp (K : PySem.W.Frag) (fd : FuncData) : Prop := FnP K "wrong_phase" sWp (ga K "wrong_phase") fd
theorem bWp {K : PySem.W.Frag} {fd : FuncData} (F : FnWp K fd) : Binds K fd ["phases", "known"] [] := FunD.bindsN F fun _ _ _ _ _ _ us hl => match us, hl with | [_, _], _ => rfl
structure Ph where
  z : Str
  ws : List Str
  b : Bool
  ps : List Str
  qs : List Str
  deriving DecidableEq
def PhS (K : PySem.W.Frag) (H : Hp) (a : Addr) (d : Ph) : Prop := PhAt K H a d.z (d.ws.map V.str) d.b (d.ps.map V.str) (d.qs.map V.str)
theorem PhS.same {K : PySem.W.Frag} {H H' : Hp} {a : Addr} {d : Ph} (h : PhS K H a d) (s : Same H H') : PhS K H' a d := by
  obtain ⟨dx, t1, t2, t3, h, a1, a2, a3⟩ := h
  exact ⟨dx, t1, t2, t3, s _ _ h, a1.same s, a2.same s, a3.same s⟩
theorem PhAt.ty {K : PySem.W.Frag} {mg : Str → Option Value} {w : World} (T : Txt K mg w) {H : Hp} {a : Addr} {z : Str} {ws ps qs : List V} {b : Bool} (h : PhAt K H a z ws b ps qs) : TyX K H (.ref a) (.ref (ga K "Phase")) := by
  obtain ⟨dx, _, _, _, h, _⟩ := h
  exact .base (.ins h T.c_Phase T.o_Phase.cls T.dc1 T.dc2 T.o_Phase.mro)
/-- a Phase, or none -/
def IsPh (K : PySem.W.Frag) (H : Hp) (x : V) : Option Ph → Prop
  | some d => (∃ a, x = .ref a ∧ PhS K H a d) ∧ d.ws.length ≤ 1000
  | none => NoC K "Phase" H x
theorem IsPh.same {K : PySem.W.Frag} {H H' : Hp} {x : V} (s : Same H H') : ∀ {r : Option Ph}, IsPh K H x r → IsPh K H' x r
  | some _, ⟨⟨a, e, h⟩, l⟩ => ⟨⟨a, e, h.same s⟩, l⟩
  | none, h => NoC.same h s
def phN (ds : List (Option Ph)) : List Str := ds.filterMap fun d => d.map (·.z)
/-- right at k -/
def okP (ds : List (Option Ph)) (kn : List Str) (k : Nat) : Bool := match ds[k]? with
  | some (some d) => !(phN (ds.take k)).contains d.z && d.ws.all kn.contains
  | _ => false
def badP (ds : List (Option Ph)) (kn : List Str) : Option Nat := (List.range ds.length).find? fun k => !okP ds kn k
theorem badP_some {ds : List (Option Ph)} {kn : List Str} {i : Nat} (l : i < ds.length) (f : okP ds kn i = false) (ok : ∀ m, m < i → okP ds kn m = true) : badP ds kn = some i := by
  unfold badP
  rw [List.find?_range_eq_some]
  refine ⟨by rw [f]; rfl, List.mem_range.mpr l, fun m hm => ?_⟩
  rw [ok m hm]
  rfl
theorem badP_none {ds : List (Option Ph)} {kn : List Str} (ok : ∀ m, m < ds.length → okP ds kn m = true) : badP ds kn = none := by
  unfold badP
  rw [List.find?_eq_none]
  intro m hm
  rw [ok m (List.mem_range.mp hm)]
  simp
def spWp (K : PySem.W.Frag) : Sp := fun vs H Q _ => ∃ (a n : Addr) (xs : List V) (ds : List (Option Ph)) (kn : List Str), vs = [.ref a, .ref n] ∧ SqV K H a xs ∧ Each (IsPh K) H xs ds ∧ xs.length ≤ 1000 ∧ SqV K H n (kn.map V.str) ∧ ∀ H', Same H H' → Q (numV (badP ds kn)) H'
section
variable {P : Program} {w : World} {K : PySem.W.Frag} {mg : Str → Option Value} {base : Heap} {f : Addr} {fd : FuncData}
abbrev nWp : List Str := ["phases", "known", "names", "at", "phase", "name"]
theorem scWp : FnScope nWp ["phases", "known"] (defScope sWp) := ⟨rfl, rfl, rfl, by decide +kernel, rfl, by decide +kernel, by decide +kernel⟩
theorem ok_wp (F : FnP K "wrong_phase" sWp f fd) (T : Txt K mg w) : FnOk P w K mg base CX0 1 f fd ["phases", "known"] (spWp K) := by
  refine F.ok scWp (fun vs H Q E h => ?_) (fun cdv A outer s H vs Q E hr h => ?_)
  · obtain ⟨_, _, _, _, _, rfl, _⟩ := h
    rfl
  refine ⟨_, PSs.nox (pss_cons (ps_set (i := 2) scWp.nd rfl (Or.inl rfl) (pe_lst pa_nil))
    (pss_cons (ps_for PassesOwn.never rfl (pi_enumV (by rfl) T.g_enumerate (pa_cons (pv 0) pa_nil)) (pg_tup rfl (pgs_cons (pg_name (i := 3) scWp.nd rfl (Or.inl rfl)) (pgs_cons (pg_name (i := 4) scWp.nd rfl (Or.inl rfl)) pgs_nil)))
      (pss_cons (ps_if (PW.pt (pw_or (pt_not (pt_val (pe_callB call_isi (by rfl) T.g_isinstance boot_isinstance (pa_cons (pv 4) (pa_cons (pe_glob (v := .ref (ga K "Phase")) (by rfl) T.m_Phase rfl) pa_nil)))))
          (pw_or1 (pt_cmpR op_in_seq (pe_fld (pv 4) (by rfl)) (pv 2) (by rfl))))) (pss_one (ps_ret (pv 3))) pss_nil)
      (pss_cons (ps_if (pt_not (pt_val (pe_callB (cr_all rfl) (by rfl) T.g_all boot_all (pa_cons (pe_lc (own := [("name", 5)]) (g := gName 5) (tt := tYes) (te := tOp (rIn K false) (tVar 5) (tVar 1)) rfl scWp.nd (pi_tup (pe_fld (pv 4) (by rfl))) (blkOk_by (N := nWp) (sc := defScope sWp) (by decide +kernel))
          (fun _ _ _ _ _ => pg_name (i := 5) scWp.nd rfl (Or.inl rfl)) (fun _ _ _ _ _ => pts_nil) (fun _ _ _ _ _ => pe_cmpR op_in_seq (pv 5) (pv 1) (by rfl))) pa_nil)))) (pss_one (ps_ret (pv 3))) pss_nil)
      (pss_one (ps_expr (pe_bm PySem.F.plainAttrs_list PySem.F.slot_list_append PySem.F.type_list_append mt_append (pv 2) (pa_cons (pe_fld (pv 4) (by rfl)) pa_nil)))))))
    (pss_one (ps_ret pe_non)))), ?_⟩
  obtain ⟨a, n, xs, ds, kn, rfl, hv, he, lx, hn, k⟩ := h
  have big : 1000 < sizeLine := by decide
  obtain ⟨b, hb⟩ := hv.sqb
  have ll := he.1
  refine ⟨(show 0 ≤ sizeLine by decide), fun l nl => ?_⟩
  have S0 := Same.new (o := .lst []) nl
  refine ⟨_, rfl, a, xs, b, rfl, SqB.same S0 hb, ?_⟩
  refine for_enumV (K := K) (xs := xs) (fun i σ G => ∃ v2 v3 v5 : Option V, σ = [some (.ref a), some (.ref n), some (.ref l), v2, v3, v5] ∧ Same H G ∧ G l = some (.lst ((phN (ds.take i)).map V.str)) ∧ ∀ m, m < i → okP ds kn m = true)
    ⟨_, _, _, rfl, S0, upd_same, fun m hm => absurd hm (Nat.not_lt_zero m)⟩ (fun i σ G _ g => ?_) (fun i x σ G Tt hx g nT => ?_) (fun σ G g => ?_)
  · obtain ⟨_, _, _, _, sG, _⟩ := g
    exact SqB.same sG hb
  · obtain ⟨v2, v3, v5, rfl, sG, hl, ok⟩ := g
    have li := (List.getElem?_eq_some_iff.mp hx).1
    obtain ⟨r, er, hr⟩ := he.2 i x hx
    have sT := Same.new (o := .tup [.int (i : Nat), x]) nT
    have S1 := sG.trans sT
    have hl1 := sT _ _ hl
    have hT : upd G Tt (.tup [.int (i : Nat), x]) Tt = some (.tup [.int (i : Nat), x]) := upd_same
    generalize upd G Tt (.tup [.int (i : Nat), x]) = G1 at S1 hT hl1 ⊢
    clear sT hl nT
    refine ⟨Tt, _, rfl, SqT.of hT, rfl, _, _, rfl, _, _, rfl, rfl, ?_⟩
    have hr1 := hr.same S1
    have stop : okP ds kn i = false → ∀ G', Same G1 G' → Q (.int i) G' := fun e G' s => by
      have := k G' (S1.trans s)
      rw [badP_some (by omega) e ok] at this
      exact this
    cases r with
    | none =>
      obtain ⟨t, ty, kk⟩ := hr1 G1 (Same.refl _)
      exact ⟨_, rfl, _, _, _, _, false, rfl, .own (ga K "Phase"), ty, kk, false, rfl, iteT ⟨_, rfl, stop (by unfold okP; rw [er]) G1 (Same.refl _)⟩⟩
    | some d =>
      obtain ⟨⟨wa, rfl, hw⟩, lw⟩ := hr1
      have ty := PhAt.ty T hw
      obtain ⟨dx, t1, t2, t3, hwa, w1, _, _⟩ := id hw
      refine ⟨_, rfl, _, _, _, _, true, rfl, .own (ga K "Phase"), ty, T.o_Phase.kk, true, rfl, iteF ?_⟩
      refine ⟨_, rfl, wa, _, dx, _, _, rfl, hwa, T.c_Phase, T.n_Phase_name, rfl, _, rfl, l, _, rfl, .inl (SqL.of hl1), rfl, flat_strs, ?_⟩
      rw [inV_strs]
      have eo : okP ds kn i = (!(phN (ds.take i)).contains d.z && d.ws.all kn.contains) := by unfold okP; rw [er]
      cases c : (phN (ds.take i)).contains d.z with
      | true => exact ⟨_, rfl, iteT ⟨_, rfl, stop (by rw [eo, c]; rfl) G1 (Same.refl _)⟩⟩
      | false =>
        rw [c, Bool.not_false, Bool.true_and] at eo
        refine ⟨_, rfl, iteF ?_⟩
        refine ⟨_, rfl, wa, _, dx, _, _, rfl, hwa, T.c_Phase, T.n_Phase_writers, rfl, t1, rfl, ⟨_, w1⟩, fun D nD => ?_⟩
        refine lc_tup (K := K) (xs := d.ws.map V.str) (fun j G' => Same G1 G' ∧ G' D = some (.lst (((d.ws.take j).map kn.contains).map V.bl))) ⟨Same.new nD, upd_same⟩ (fun j G' _ g => w1.same g.1) (fun j y G' hy g => ?_) (fun G' g => ?_)
        · obtain ⟨s2, h2⟩ := g
          rw [List.getElem?_map] at hy
          obtain ⟨u, hu, rfl⟩ := Option.map_eq_some_iff.mp hy
          have lj := (List.getElem?_eq_some_iff.mp hu).1
          refine ⟨rfl, _, rfl, _, rfl, n, _, rfl, (hn.same (S1.trans s2)), rfl, flat_strs, ?_⟩
          refine ⟨_, h2, ?_, same_put s2 nD, ?_⟩
          · rw [List.length_map, List.length_map, List.length_take]
            omega
          · rw [upd_same, List.take_succ, hu]
            simp [inV_strs]
        · obtain ⟨s2, h2⟩ := g
          rw [List.length_map, List.take_length] at h2
          refine ⟨D, d.ws.map kn.contains, rfl, SqL.of h2, ?_⟩
          have ea : (d.ws.map kn.contains).all id = d.ws.all kn.contains := by rw [List.all_map]; rfl
          have S2 := S1.trans s2
          have hl2 := s2 _ _ hl1
          have hwa2 := s2 _ _ hwa
          cases ca : d.ws.all kn.contains with
          | false => exact ⟨false, by rw [← ca, ← ea], iteT ⟨_, rfl, stop (by rw [eo, ca]) _ s2⟩⟩
          | true =>
            refine ⟨true, by rw [← ca, ← ea], iteF ?_⟩
            refine ⟨_, rfl, .inl ⟨rfl, _, SqL.of hl2⟩, _, rfl, wa, _, dx, _, _, rfl, hwa2, T.c_Phase, T.n_Phase_name, rfl, l, _, _, rfl, rfl, hl2, ?_, _, _, _, rfl, same_put S2 nl, ?_, fun m hm => ?_⟩
            · have := List.length_filterMap_le (fun d : Option Ph => d.map (·.z)) (ds.take i)
              rw [List.length_take] at this
              unfold phN
              rw [List.length_map]
              omega
            · rw [upd_same, List.take_succ, er]
              simp [phN]
            · by_cases q : m = i
              · rw [q, eo, ca]
              · exact ok m (by omega)
  · obtain ⟨v2, v3, v5, rfl, sG, hl, ok⟩ := g
    have := k G sG
    rw [badP_none (fun m hm => ok m (by omega))] at this
    exact this
end
end K55

set_option maxRecDepth 100000
set_option maxHeartbeats 4000000
/-! != of two lists whose items are the same things, or tuples of the same things. -/
namespace L2
open PySem PySem.Spec PyProof.Rows
def plainV : V → Bool
  | .ref _ => true
  | v => flatB v
theorem eqAt_plain {A : Around} {s : Shared} {v : V} {u u' : Value} (r : RelV v u) (r' : RelV v u') (f : plainV v = true) : SeqAt.EqAt A s u u' true := by
  cases v with
  | ref a =>
    cases (show u = Value.ref a from r)
    cases (show u' = Value.ref a from r')
    exact SeqAt.EqAt.same _
  | non => exact eqAt_same r r' f
  | bl b => exact eqAt_same r r' f
  | int i => exact eqAt_same r r' f
  | str z => exact eqAt_same r r' f
  | byt b => exact eqAt_same r r' f
  | flt b => cases f
  | ty n => cases f
/-- the same thing, or tuples of the same things -/
def SmV (K : PySem.W.Frag) (H : Hp) (x y : V) : Prop := (x = y ∧ plainV x = true) ∨ ∃ (a b : Addr) (xs : List V), x = .ref a ∧ y = .ref b ∧ SqT K H a xs ∧ SqT K H b xs ∧ ∀ v ∈ xs, plainV v = true
def SmL (K : PySem.W.Frag) (H : Hp) : List V → List V → Prop
  | [], [] => True
  | x :: xs, y :: ys => SmV K H x y ∧ SmL K H xs ys
  | _, _ => False
theorem SmL.same {K : PySem.W.Frag} {H : Hp} : ∀ {xs : List V}, (∀ v ∈ xs, plainV v = true) → SmL K H xs xs
  | [], _ => trivial
  | x :: xs, h => ⟨.inl ⟨rfl, h x (by simp)⟩, SmL.same fun v hv => h v (by simp [hv])⟩
theorem SmL.len {K : PySem.W.Frag} {H : Hp} : ∀ {xs ys : List V}, SmL K H xs ys → xs.length = ys.length
  | [], [], _ => rfl
  | [], _ :: _, h => h.elim
  | _ :: _, [], h => h.elim
  | _ :: _, _ :: _, ⟨_, h⟩ => congrArg Nat.succ h.len
theorem SmL.at {K : PySem.W.Frag} {H : Hp} : ∀ {xs ys : List V} {i : Nat} {x y : V}, SmL K H xs ys → xs[i]? = some x → ys[i]? = some y → SmV K H x y
  | [], _, _, _, _, _, e, _ => by simp at e
  | _ :: _, [], _, _, _, h, _, _ => h.elim
  | x :: xs, y :: ys, 0, _, _, ⟨h, _⟩, e1, e2 => by
    simp at e1 e2
    rw [← e1, ← e2]
    exact h
  | x :: xs, y :: ys, i + 1, _, _, ⟨_, h⟩, e1, e2 => SmL.at (i := i) h (by simpa using e1) (by simpa using e2)
section
variable {X : Cx} {pins : List (Addr × Obj)} {σ : St} {H : Hp} {s : Shared}
theorem eqAt_sm (I : Inv X pins σ H s) {A : Around} (hu : A.units < cLine) {x y : V} {u u' : Value} (h : SmV X.K H x y) (r : RelV x u) (r' : RelV y u') : SeqAt.EqAt A s u u' true := by
  rcases h with ⟨rfl, f⟩ | ⟨a, b, xs, rfl, rfl, ha, hb, pl⟩
  · exact eqAt_plain r r' f
  · cases (show u = Value.ref a from r)
    cases (show u' = Value.ref b from r')
    by_cases e : a = b
    · subst e
      exact SeqAt.EqAt.same _
    · obtain ⟨us, r1, ⟨o1, g1, c1, n1, d1⟩, _⟩ := I.tuple ha
      obtain ⟨ws, r2, ⟨o2, g2, c2, n2, d2⟩, _⟩ := I.tuple hb
      refine SeqAt.EqAt.of_refs e ?_
      have lu := r1.length
      have lw := r2.length
      have hh := SeqAt.RcAt.tuples (s := s) (A := A) (e := fun _ => true) ⟨o1, g1, c1, n1, d1⟩ ⟨o2, g2, c2, n2, d2⟩ hu (fun j h1 h2 => by
        have h1' : j < us.length := by simpa using h1
        have h2' : j < ws.length := by simpa using h2
        have hx : j < xs.length := by omega
        obtain ⟨u1, e1, q1⟩ := r1.get (List.getElem?_eq_getElem hx)
        obtain ⟨u2, e2, q2⟩ := r2.get (List.getElem?_eq_getElem hx)
        rw [List.getElem?_eq_getElem h1'] at e1
        rw [List.getElem?_eq_getElem h2'] at e2
        cases Option.some.inj e1
        cases Option.some.inj e2
        exact eqAt_plain q1 q2 (pl _ (List.getElem_mem hx)))
      have e2 : ((List.range (min us.toArray.size ws.toArray.size)).all (fun _ => true) && us.toArray.size == ws.toArray.size) = true := by
        have : us.toArray.size = ws.toArray.size := by
          rw [List.size_toArray, List.size_toArray]
          omega
        rw [this]
        simp
      rw [e2] at hh
      exact hh
def rNeS (K : PySem.W.Frag) : R2 := fun x y H Q => ∃ (a b : Addr) (xs ys : List V), x = .ref a ∧ y = .ref b ∧ SqL K H a xs ∧ SqL K H b ys ∧ SmL K H xs ys ∧ Q (.bl false) H
theorem op_neS (hu : X.A.units + 64 < cLine) : OpR X (compareOp .NotEq) (rNeS X.K) := by
  intro pins s σ H x y v u Q I rx ry h
  obtain ⟨a, b, xs, ys, rfl, rfl, ha, hb, sm, q⟩ := h
  cases (show v = Value.ref a from rx)
  cases (show u = Value.ref b from ry)
  obtain ⟨us, r1, p1, _⟩ := I.list ha
  obtain ⟨ws, r2, p2, _⟩ := I.list hb
  have lu := r1.length
  have lw := r2.length
  have ll := sm.len
  have sz : us.toArray.size = ws.toArray.size := by
    rw [List.size_toArray, List.size_toArray]
    omega
  have hh := SeqAt.RcNeAt.lists (s := s) (A := X.A) (e := fun _ => true) p1.isList p2.isList sz (by omega) (fun j h1 h2 => by
    have h1' : j < us.length := by simpa using h1
    have h2' : j < ws.length := by simpa using h2
    have hx : j < xs.length := by omega
    have hy : j < ys.length := by omega
    obtain ⟨u1, e1, q1⟩ := r1.get (List.getElem?_eq_getElem hx)
    obtain ⟨u2, e2, q2⟩ := r2.get (List.getElem?_eq_getElem hy)
    rw [List.getElem?_eq_getElem h1'] at e1
    rw [List.getElem?_eq_getElem h2'] at e2
    cases Option.some.inj e1
    cases Option.some.inj e2
    exact eqAt_sm I (A := X.A.in1) (by show X.A.units + 1 < cLine; omega) (sm.at (List.getElem?_eq_getElem hx) (List.getElem?_eq_getElem hy)) q1 q2)
  have e0 : (!(List.range us.toArray.size).all fun _ => true) = false := by simp
  rw [e0] at hh
  exact hh X.prog X.w _ _ ⟨.bl false, H, I, rfl, q⟩
end
end L2

set_option maxRecDepth 100000
set_option maxHeartbeats 4000000
namespace K55
open PySem PySem.Spec PyProof.Rows L2 He VH RZ
/-! a Rollout made (of what is right) -/
abbrev sNoR : Stmt := inClass (top 7) 0
abbrev sRoI : Stmt := inClass (top 53) 0
abbrev FnNoR (K : PySem.W.Frag) (fd : FuncData) : Prop := FnM K "__init__" "NoRollout.__init__" 7 0 (ma K (ga K "NoRollout") "__init__") fd
abbrev kwR (K : PySem.W.Frag) : List (Str × V) := [("workers", .int 1), ("hands", .int 1), ("back", .ref (kwA ("Rollout", some "__init__") "back" K))]
abbrev FnRoI (K : PySem.W.Frag) (fd : FuncData) : Prop := FunD K "__init__" "Rollout.__init__" (defArgs sRoI) (defBody sRoI) (defScope sRoI) [] (kwR K) (ma K (ga K "Rollout") "__init__") fd
/-- what a Rollout is made of: names of Writers, Phases, ways -/
structure Ro where
  zs : List Str
  ds : List Ph
  wk : Int
  hd : Int
  rs : List (Int × Int)
structure Ro.Ok (d : Ro) : Prop where
  z1 : 1 ≤ d.zs.length
  z4 : d.zs.length ≤ 4
  zn : badN (d.zs.map some) = none
  p1 : 1 ≤ d.ds.length
  p6 : d.ds.length ≤ 6
  pn : badP (d.ds.map some) d.zs = none
  w1 : 1 ≤ d.wk
  w2 : d.wk ≤ 2
  h0 : 0 ≤ d.hd
  h2 : d.hd ≤ 2
  bl : d.rs.length ≤ 1000
  bn : badY d.rs d.ds.length = none
/-- a Fill whose statement is a tuple of plain things -/
def FlK (K : PySem.W.Frag) (H : Hp) (fa : Addr) : Prop := ∃ p e, FlAt K H fa p e ∧ ∃ xs, H p = some (.tup xs) ∧ ∀ v ∈ xs, plainV v = true
theorem StAt.pl {H : Hp} {p : Addr} {s : Stp} (h : StAt H p s) : ∃ xs, H p = some (.tup xs) ∧ ∀ v ∈ xs, plainV v = true := by
  unfold StAt at h
  have st : ∀ (ws : List Str), ∀ v ∈ ws.map V.str, plainV v = true := fun ws v hv => by
    obtain ⟨u, _, rfl⟩ := List.mem_map.mp hv
    rfl
  split at h
  · refine ⟨_, h, fun v hv => ?_⟩
    rcases List.mem_cons.mp hv with rfl | hv
    · rfl
    · exact st _ v hv
  · obtain ⟨q, h, _⟩ := h
    refine ⟨_, h, fun v hv => ?_⟩
    rcases List.mem_cons.mp hv with rfl | hv
    · rfl
    rcases List.mem_append.mp hv with hv | hv
    · exact st _ v hv
    · rw [List.mem_singleton.mp hv]
      rfl
theorem FlK.same {K : PySem.W.Frag} {H H' : Hp} {fa : Addr} (h : FlK K H fa) (s : Same H H') : FlK K H' fa := by
  obtain ⟨p, e, ⟨dx, h⟩, xs, hp, pl⟩ := h
  exact ⟨p, e, ⟨dx, s _ _ h⟩, xs, s _ _ hp, pl⟩
/-- its parts stand -/
structure Parts (K : PySem.W.Frag) (H : Hp) (ws ps bs : List V) (fa : Addr) (d : Ro) : Prop where
  w : Each (IsWr K) H ws (d.zs.map some)
  f : FlK K H fa
  p : Each (IsPh K) H ps (d.ds.map some)
  b : Each (WyAt K) H bs d.rs
/-- a Rollout at a -/
def RoAt (K : PySem.W.Frag) (H : Hp) (a : Addr) (ws ps bs : List V) (fa : Addr) (d : Ro) : Prop := ∃ (dx t1 t2 t3 : Addr) (c1 c2 : Bool), H a = some (.ins (ga K "Rollout") dx [("writers", .ref t1), ("fill", .ref fa), ("phases", .ref t2), ("workers", .int d.wk), ("hands", .int d.hd), ("back", .ref t3), ("counts", .bl c1), ("keeps", .bl c2)]) ∧
  SqT K H t1 ws ∧ SqT K H t2 ps ∧ SqT K H t3 bs
theorem IsWr.ins {K : PySem.W.Frag} {H H' : Hp} {a C dx : Addr} (ha : H a = some (.ins C dx [])) (e : But a H H') {x : V} : ∀ {r : Option Str}, (∃ z, r = some z) → IsWr K H x r → IsWr K H' x r
  | some z, _, ⟨b, xs, n, ex, d1, t, h1, h2⟩ => ⟨b, xs, n, ex, d1, t, e _ _ (fun q => by rw [q, ha] at h1; cases h1) h1, e _ _ (fun q => by rw [q, ha] at h2; cases h2) h2⟩
  | none, h, _ => by
    obtain ⟨z, h⟩ := h
    cases h
theorem IsPh.ins {K : PySem.W.Frag} {H H' : Hp} {a C dx : Addr} (ha : H a = some (.ins C dx [])) (e : But a H H') {x : V} : ∀ {r : Option Ph}, (∃ z, r = some z) → IsPh K H x r → IsPh K H' x r
  | some d, _, ⟨⟨b, ex, d1, t1, t2, t3, h1, a1, a2, a3⟩, l⟩ => ⟨⟨b, ex, d1, t1, t2, t3, e _ _ (fun q => by rw [q, ha] at h1; cases h1) h1, a1.ins ha e, a2.ins ha e, a3.ins ha e⟩, l⟩
  | none, h, _ => by
    obtain ⟨z, h⟩ := h
    cases h
theorem mem_some {α : Type} {l : List α} {i : Nat} {r : Option α} (h : (l.map some)[i]? = some r) : ∃ z, r = some z := by
  rw [List.getElem?_map] at h
  obtain ⟨z, _, rfl⟩ := Option.map_eq_some_iff.mp h
  exact ⟨z, rfl⟩
theorem Each.ph {K : PySem.W.Frag} {H H' : Hp} {a C dx : Addr} (ha : H a = some (.ins C dx [])) (e : But a H H') {xs : List V} {ds : List Ph} (h : Each (IsPh K) H xs (ds.map some)) : Each (IsPh K) H' xs (ds.map some) := ⟨h.1, fun i x q => by
  obtain ⟨r, er, p⟩ := h.2 i x q
  exact ⟨r, er, p.ins ha e (mem_some er)⟩⟩
def spRoI (K : PySem.W.Frag) : Sp := fun vs H Q _ => ∃ (a dx aw af ap ab : Addr) (ws ps bs : List V) (d : Ro), vs = [.ref a, .ref aw, .ref af, .ref ap, .int d.wk, .int d.hd, .ref ab] ∧ H a = some (.ins (ga K "Rollout") dx []) ∧
  SqV K H aw ws ∧ SqV K H ap ps ∧ SqV K H ab bs ∧ Parts K H ws ps bs af d ∧ d.Ok ∧ ∀ H', But a H H' → RoAt K H' a ws ps bs af d → Q .non H'
section
variable {P : Program} {w : World} {K : PySem.W.Frag} {mg : Str → Option Value} {base : Heap} {f : Addr} {fd : FuncData}
theorem scNoR : FnScope ["self", "part", "index"] ["self", "part", "index"] (defScope sNoR) := ⟨rfl, rfl, rfl, by decide +kernel, rfl, by decide +kernel, by decide +kernel⟩
theorem okNoR (F : FnM K "__init__" "NoRollout.__init__" 7 0 f fd) : FnOk P w K mg base CX0 1 f fd ["self", "part", "index"] (spIni K ["part", "index"]) := by
  refine F.ok scNoR (fun vs H Q E h => ?_) (fun cdv A outer s H vs Q E hr h => ?_)
  · obtain ⟨a, C, v, u, rfl, _⟩ := ini2 h
    rfl
  refine ⟨_, PSs.nox (pss_cons (ps_ost (pv 0) (pv 1)) (pss_one (ps_ost (pv 0) (pv 2)))), ?_⟩
  obtain ⟨a, C, v, u, rfl, T, no, no2, ha, k⟩ := ini2 h
  refine ⟨_, rfl, _, rfl, a, C, rfl, T, no, .inl ⟨ha, fun dx n ne => ?_⟩⟩
  exact ⟨_, rfl, _, rfl, a, C, rfl, T, no2, .inr ⟨dx, _, upd_same, (upd_ne ne).trans upd_same, (show 1 ≤ 900 by decide), k dx n ne⟩⟩
theorem bNoR (F : FnM K "__init__" "NoRollout.__init__" 7 0 f fd) : Binds K fd ["self", "part", "index"] [] := FunD.bindsN F fun _ _ _ _ _ _ us hl => match us, hl with | [_, _, _], _ => rfl
abbrev nRoI : List Str := ["self", "writers", "fill", "phases", "workers", "hands", "back", "wrong", "writer", "phase"]
abbrev pRoI : List Str := ["self", "writers", "fill", "phases", "workers", "hands", "back"]
theorem scRoI : FnScope nRoI pRoI (defScope sRoI) := ⟨rfl, rfl, rfl, by decide +kernel, rfl, by decide +kernel, by decide +kernel⟩
end
end K55

set_option maxRecDepth 100000
set_option maxHeartbeats 4000000
namespace K55
open PySem PySem.Spec PyProof.Rows L2 He VH RZ
/-! Rollout.__init__ -/
section
variable {P : Program} {w : World} {K : PySem.W.Frag} {mg : Str → Option Value} {base : Heap} {f : Addr} {fd : FuncData}
theorem some_len {α : Type} {xs : List V} {l : List α} {H : Hp} {p : Hp → V → Option α → Prop} (h : Each p H xs (l.map some)) : xs.length = l.length := by
  have := h.1
  rwa [List.length_map] at this
/-- [writer.name for writer in writers] -/
theorem rd_wnames (T : Txt K mg w) {σ : L2.St} {H : Hp} {a : Addr} {xs : List V} {zs : List Str} {Q : VK} (h1 : σ[1]? = some (some (.ref a))) (l8 : σ.length = 10) (hv : SqV K H a xs) (he : Each (IsWr K) H xs (zs.map some)) (lx : xs.length ≤ 1000)
    (k : ∀ (D : Addr) (G : Hp), Same H G → G D = some (.lst (zs.map V.str)) → Q (.ref D) G) :
    tLc (iOr (iList K (tVar 1)) (iTup K (tVar 1))) (gName 8) tYes (tFld K (tVar 8) "name") [8] σ H Q := by
  have big : 1000 < sizeLine := by decide
  have ll := some_len he
  match σ, l8 with
  | [v0, v1, v2, v3, v4, v5, v6, v7, v8, v9], _ =>
  refine lc_sqv (j := 1) (xs := xs) h1 hv (fun D i G => Same H G ∧ H D = none ∧ G D = some (.lst ((zs.take i).map V.str))) (fun D i G p => p.1) (fun D nD => ⟨Same.new nD, nD, upd_same⟩) (fun D i x G nD hx p => ?_) (fun D G p => ?_)
  · obtain ⟨sG, _, hD⟩ := p
    obtain ⟨r, er, hr⟩ := he.2 i x hx
    obtain ⟨z, rfl⟩ := mem_some er
    have ez : zs[i]? = some z := by
      rw [List.getElem?_map] at er
      obtain ⟨y, e1, e2⟩ := Option.map_eq_some_iff.mp er
      cases e2
      exact e1
    obtain ⟨wa, ys, b, rfl, dx, t, hw, _⟩ := hr.same sG
    refine ⟨rfl, _, rfl, wa, _, dx, _, _, rfl, hw, T.c_Writer, T.n_Writer_name, rfl, _, hD, ?_, same_put sG nD, nD, ?_⟩
    · rw [List.length_map, List.length_take]
      omega
    · rw [upd_same, List.take_succ, ez]
      simp
  · obtain ⟨sG, _, hD⟩ := p
    rw [ll, List.take_length] at hD
    exact k D G sG hD
/-- [word in phase.promises for phase in phases] -/
theorem rd_proms (T : Txt K mg w) {u : Str} {σ : L2.St} {H : Hp} {a : Addr} {xs : List V} {ds : List Ph} {Q : VK} (h1 : σ[3]? = some (some (.ref a))) (l8 : σ.length = 10) (hv : SqV K H a xs) (he : Each (IsPh K) H xs (ds.map some)) (lx : xs.length ≤ 1000)
    (k : ∀ (D : Addr) (G : Hp) (bs : List Bool), Same H G → G D = some (.lst (bs.map V.bl)) → Q (.ref D) G) :
    tLc (iOr (iList K (tVar 3)) (iTup K (tVar 3))) (gName 9) tYes (tOp (rIn K false) (tC (.str u)) (tFld K (tVar 9) "promises")) [9] σ H Q := by
  have big : 1000 < sizeLine := by decide
  have ll := some_len he
  match σ, l8 with
  | [v0, v1, v2, v3, v4, v5, v6, v7, v8, v9], _ =>
  refine lc_sqv (j := 3) (xs := xs) h1 hv (fun D i G => Same H G ∧ ∃ bs : List Bool, bs.length = i ∧ G D = some (.lst (bs.map V.bl))) (fun D i G p => p.1) (fun D nD => ⟨Same.new nD, [], rfl, upd_same⟩) (fun D i x G nD hx p => ?_) (fun D G p => ?_)
  · obtain ⟨sG, bs, lb, hD⟩ := p
    have li := (List.getElem?_eq_some_iff.mp hx).1
    obtain ⟨r, er, hr⟩ := he.2 i x hx
    obtain ⟨d, rfl⟩ := mem_some er
    obtain ⟨⟨pa, rfl, dx, t1, t2, t3, hp, _, a2, _⟩, _⟩ := hr.same sG
    refine ⟨rfl, _, rfl, pa, _, dx, _, _, rfl, hp, T.c_Phase, T.n_Phase_promises, rfl, t2, _, rfl, .inr a2, rfl, flat_strs, _, hD, ?_, same_put sG nD, bs ++ [inV (.str u) (d.ps.map V.str)], ?_, ?_⟩
    · rw [List.length_map]
      omega
    · rw [List.length_append, lb]
      rfl
    · rw [upd_same, List.map_append]
      rfl
  · obtain ⟨sG, bs, _, hD⟩ := p
    exact k D G bs sG hD
theorem ok_roI (F : FnRoI K fd) (T : Txt K mg w) (fns : Fns K) : FnOk P w K mg base (L2.CX P w) 5 (ma K (ga K "Rollout") "__init__") fd pRoI (spRoI K) := by
  obtain ⟨dI, FI⟩ := fns.f_is_integer
  obtain ⟨dB, FB⟩ := fns.f_is_between
  obtain ⟨dQ, FQ⟩ := fns.f_is_sequence
  obtain ⟨dZ, FZ⟩ := fns.f_is_sized
  obtain ⟨dY, FY⟩ := fns.f_is_way
  obtain ⟨d1, F1⟩ := fns.f_wrong_writer
  obtain ⟨d2, F2⟩ := fns.f_wrong_phase
  obtain ⟨d3, F3⟩ := fns.f_wrong_way
  obtain ⟨dX, FX⟩ := fns.f_NoRollout_init
  have GB : FnOk P w K mg base CX0 2 (ga K "is_between") dB ["value", "least", "most"] (spBtw K) := ok_btw FB T FI
  have GQ : FnOk P w K mg base CX0 1 (ga K "is_sequence") dQ ["value"] (spSeq K) := ok_seq FQ T
  have GZ : FnOk P w K mg base CX0 2 (ga K "is_sized") dZ ["value", "least", "most"] (spSiz K) := ok_siz FZ T FQ
  have G1 : FnOk P w K mg base CX0 1 (ga K "wrong_writer") d1 ["writers"] (spWw K) := ok_ww F1 T
  have G2 : FnOk P w K mg base CX0 1 (ga K "wrong_phase") d2 ["phases", "known"] (spWp K) := ok_wp F2 T
  have G3 : FnOk P w K mg base CX0 4 (ga K "wrong_way") d3 ["back", "many"] (spWy K) := ok_wy F3 T FY FB FI
  refine F.ok scRoI (fun vs H Q E h => ?_) (fun cdv A outer s H vs Q E hr h => ?_)
  · obtain ⟨_, _, _, _, _, _, _, _, _, _, rfl, _⟩ := h
    rfl
  have rN : ∀ {p1 p2 p3 p4 p5 p6 : Pos} {j j2 : Nat} {wd : Str}, PS (cxOf (L2.CX P w) P w K mg base nRoI "Rollout.__init__" (defScope sRoI) (ma K (ga K "Rollout") "__init__") cdv A outer s H E) (.Raise (some (.Call (.Name "NoRollout" p1) [.Constant (.str wd) j p2, .UnaryOp .USub (.Constant (.int 1) j2 p5) p6] [] p3)) none p4) _ := fun {p1 p2 p3 p4 p5 p6 j j2 wd} =>
    ps_raise rfl (takes_of rfl rfl rfl rfl) (pmk_oex T.x_NoRollout.mkx.toOexC T.x_NoRollout.mkx.ini T.x_NoRollout.mkx.tyI (okNoR FX) (hr.mono (by decide)) (bNoR FX) .nil pass0 (by rfl) T.m_NoRollout (pa_cons pe_str (pa_cons (pe_un un_neg pe_int) pa_nil)))
  have rW : ∀ {p1 p2 p3 p4 p5 : Pos} {j : Nat} {wd : Str}, PS (cxOf (L2.CX P w) P w K mg base nRoI "Rollout.__init__" (defScope sRoI) (ma K (ga K "Rollout") "__init__") cdv A outer s H E) (.Raise (some (.Call (.Name "NoRollout" p1) [.Constant (.str wd) j p2, .Name "wrong" p5] [] p3)) none p4) _ := fun {p1 p2 p3 p4 p5 j wd} =>
    ps_raise rfl (takes_of rfl rfl rfl rfl) (pmk_oex T.x_NoRollout.mkx.toOexC T.x_NoRollout.mkx.ini T.x_NoRollout.mkx.tyI (okNoR FX) (hr.mono (by decide)) (bNoR FX) .nil pass0 (by rfl) T.m_NoRollout (pa_cons pe_str (pa_cons (pv 7) pa_nil)))
  refine ⟨_, pss_cons (ps_if (pt_not (pt_val (pe_call GZ (hr.mono (by decide)) (by rfl) T.m_is_sized FZ.kp (bSiz FZ) .nil pass0 (pa_cons (pv 1) (pa_cons pe_int (pa_cons pe_int pa_nil)))))) (pss_one rN) pss_nil)
    (pss_cons (ps_set (i := 7) scRoI.nd rfl (Or.inl rfl) (pe_call G1 (hr.mono (by decide)) (by rfl) T.m_wrong_writer F1.kp (bWw F1) .nil pass0 (pa_cons (pv 1) pa_nil)))
    (pss_cons (ps_if (pt_cmpR op_notN (pv 7) pe_non (nomark _)) (pss_one rW) pss_nil)
    (pss_cons (ps_if (pt_not (pt_val (pe_callB call_isi (by rfl) T.g_isinstance boot_isinstance (pa_cons (pv 2) (pa_cons (pe_glob (v := .ref (ga K "Fill")) (by rfl) T.m_Fill rfl) pa_nil))))) (pss_one rN) pss_nil)
    (pss_cons (ps_if (pt_not (pt_val (pe_call GZ (hr.mono (by decide)) (by rfl) T.m_is_sized FZ.kp (bSiz FZ) .nil pass0 (pa_cons (pv 3) (pa_cons pe_int (pa_cons pe_int pa_nil)))))) (pss_one rN) pss_nil)
    (pss_cons (ps_set (i := 7) scRoI.nd rfl (Or.inl rfl) (pe_call G2 (hr.mono (by decide)) (by rfl) T.m_wrong_phase F2.kp (bWp F2) .nil pass0 (pa_cons (pv 3) (pa_cons (pe_lc (own := [("writer", 8)]) (g := gName 8) (tt := tYes) (te := tFld K (tVar 8) "name") rfl scRoI.nd (pi_or (pi_list (pv 1)) (pi_tup (pv 1))) (blkOk_by (N := nRoI) (sc := defScope sRoI) (by decide +kernel))
          (fun _ _ _ _ _ => pg_name (i := 8) scRoI.nd rfl (Or.inl rfl)) (fun _ _ _ _ _ => pts_nil) (fun _ _ _ _ _ => pe_fld (pv 8) (by rfl))) pa_nil))))
    (pss_cons (ps_if (pt_cmpR op_notN (pv 7) pe_non (nomark _)) (pss_one rW) pss_nil)
    (pss_cons (ps_if (pt_not (pt_val (pe_call GB (hr.mono (by decide)) (by rfl) T.m_is_between FB.kp (bBtw FB) .nil pass0 (pa_cons (pv 4) (pa_cons pe_int (pa_cons pe_int pa_nil)))))) (pss_one rN) pss_nil)
    (pss_cons (ps_if (pt_not (pt_val (pe_call GB (hr.mono (by decide)) (by rfl) T.m_is_between FB.kp (bBtw FB) .nil pass0 (pa_cons (pv 5) (pa_cons pe_int (pa_cons pe_int pa_nil)))))) (pss_one rN) pss_nil)
    (pss_cons (ps_if (pt_not (pt_val (pe_call GQ (hr.mono (by decide)) (by rfl) T.m_is_sequence FQ.kp (bSeq FQ) .nil pass0 (pa_cons (pv 6) pa_nil)))) (pss_one rN) pss_nil)
    (pss_cons (ps_set (i := 7) scRoI.nd rfl (Or.inl rfl) (pe_call G3 (hr.mono (by decide)) (by rfl) T.m_wrong_way F3.kp (bWy F3) .nil pass0 (pa_cons (pv 6) (pa_cons (pe_callB call_len_seq (by rfl) T.g_len boot_len (pa_cons (pv 3) pa_nil)) pa_nil))))
    (pss_cons (ps_if (pt_cmpR op_notN (pv 7) pe_non (nomark _)) (pss_one rW) pss_nil)
    (pss_cons (ps_fld (pv 0) (pe_callTy call_tupS (by rfl) T.g_tuple boot_tuple (pa_cons (pv 1) pa_nil)) rfl)
    (pss_cons (ps_fld (pv 0) (pv 2) rfl)
    (pss_cons (ps_fld (pv 0) (pe_callTy call_tupS (by rfl) T.g_tuple boot_tuple (pa_cons (pv 3) pa_nil)) rfl)
    (pss_cons (ps_fld (pv 0) (pv 4) rfl)
    (pss_cons (ps_fld (pv 0) (pv 5) rfl)
    (pss_cons (ps_fld (pv 0) (pe_callTy call_tupS (by rfl) T.g_tuple boot_tuple (pa_cons (pv 6) pa_nil)) rfl)
    (pss_cons (ps_fld (pv 0) (pe_callB (cr_any rfl) (by rfl) T.g_any boot_any (pa_cons (pe_lc (own := [("phase", 9)]) (g := gName 9) (tt := tYes) (te := tOp (rIn K false) (tC (.str "once")) (tFld K (tVar 9) "promises")) rfl scRoI.nd (pi_or (pi_list (pv 3)) (pi_tup (pv 3))) (blkOk_by (N := nRoI) (sc := defScope sRoI) (by decide +kernel))
          (fun _ _ _ _ _ => pg_name (i := 9) scRoI.nd rfl (Or.inl rfl)) (fun _ _ _ _ _ => pts_nil) (fun _ _ _ _ _ => pe_cmpR op_in_seq pe_str (pe_fld (pv 9) (by rfl)) (by rfl))) pa_nil)) rfl)
    (pss_one (ps_fld (pv 0) (pe_callB (cr_any rfl) (by rfl) T.g_any boot_any (pa_cons (pe_lc (own := [("phase", 9)]) (g := gName 9) (tt := tYes) (te := tOp (rIn K false) (tC (.str "kept")) (tFld K (tVar 9) "promises")) rfl scRoI.nd (pi_or (pi_list (pv 3)) (pi_tup (pv 3))) (blkOk_by (N := nRoI) (sc := defScope sRoI) (by decide +kernel))
          (fun _ _ _ _ _ => pg_name (i := 9) scRoI.nd rfl (Or.inl rfl)) (fun _ _ _ _ _ => pts_nil) (fun _ _ _ _ _ => pe_cmpR op_in_seq pe_str (pe_fld (pv 9) (by rfl)) (by rfl))) pa_nil)) rfl)))))))))))))))))))), ?_⟩
  obtain ⟨a, dx, aw, af, ap, ab, ws, ps, bs, d, rfl, ha, hw, hp, hb, pt, od, k⟩ := h
  obtain ⟨zs, ds, wk, hd, rs⟩ := d
  obtain ⟨z1, z4, zn, p1, p6, pn, w1, w2, h0, h2, bl, bn⟩ := od
  obtain ⟨pw, pf, pp, pb⟩ := pt
  simp only at z1 z4 zn p1 p6 pn w1 w2 h0 h2 bl bn pw pp pb
  have lw := some_len pw
  have lp := some_len pp
  have lb := pb.1
  -- writers
  refine ⟨_, rfl, _, _, _, rfl, .inl ⟨aw, ws, rfl, hw, fun H1 S1 => ⟨true, ?_, iteF ?_⟩⟩⟩
  · rw [decide_eq_true (show (1 : Int) ≤ (ws.length : Nat) by omega), decide_eq_true (show ((ws.length : Nat) : Int) ≤ 4 by omega)]
    rfl
  refine ⟨_, rfl, aw, ws, zs.map some, rfl, hw.same S1, pw.same (fun _ _ h => h.same S1), by omega, fun H2 S2 => ?_⟩
  rw [zn]
  refine ⟨_, rfl, rfl, _, rfl, iteF ?_⟩
  have S02 := S1.trans S2
  -- fill
  obtain ⟨fp, fe, ⟨fx, hf⟩, _⟩ := pf
  refine ⟨_, rfl, _, _, _, _, true, rfl, .own (ga K "Fill"), .base (.ins (S02 _ _ hf) T.c_Fill T.o_Fill.cls T.dc1 T.dc2 T.o_Fill.mro), T.o_Fill.kk, true, rfl, iteF ?_⟩
  -- phases
  refine ⟨_, rfl, _, _, _, rfl, .inl ⟨ap, ps, rfl, hp.same S02, fun H3 S3 => ⟨true, ?_, iteF ?_⟩⟩⟩
  · rw [decide_eq_true (show (1 : Int) ≤ (ps.length : Nat) by omega), decide_eq_true (show ((ps.length : Nat) : Int) ≤ 6 by omega)]
    rfl
  have S03 := S02.trans S3
  refine ⟨_, rfl, rd_wnames (a := aw) (xs := ws) (zs := zs) T rfl rfl (hw.same S03) (pw.same (fun _ _ h => h.same S03)) (by omega) fun D H4 S4 hD => ?_⟩
  have S04 := S03.trans S4
  refine ⟨ap, D, ps, ds.map some, zs, rfl, hp.same S04, pp.same (fun _ _ h => h.same S04), by omega, .inl (SqL.of hD), fun H5 S5 => ?_⟩
  rw [pn]
  have S05 := S04.trans S5
  refine ⟨_, rfl, rfl, _, rfl, iteF ?_⟩
  -- workers, hands
  refine ⟨_, rfl, .int wk, 1, 2, some wk, rfl, .inl ⟨wk, rfl, rfl⟩, true, ?_, iteF ?_⟩
  · rw [show btwB (some wk) 1 2 = true by simp [btwB, w1, w2]]
  refine ⟨_, rfl, .int hd, 0, 2, some hd, rfl, .inl ⟨hd, rfl, rfl⟩, true, ?_, iteF ?_⟩
  · rw [show btwB (some hd) 0 2 = true by simp [btwB, h0, h2]]
  -- back
  refine ⟨_, rfl, _, rfl, .inl ⟨ab, bs, rfl, hb.same S05, fun H6 S6 => ⟨true, rfl, iteF ?_⟩⟩⟩
  have S06 := S05.trans S6
  refine ⟨_, rfl, _, rfl, ap, ps, rfl, hp.same S06, ab, bs, rs, ((ps.length : Nat) : Int), rfl, hb.same S06, pb.same (fun _ _ h => h.same S06), by omega, fun H7 S7 => ?_⟩
  rw [show badY rs ((ps.length : Nat) : Int) = none by rw [lp]; exact bn]
  refine ⟨_, rfl, rfl, _, rfl, iteF ?_⟩
  have S07 := S06.trans S7
  clear S1 S2 S3 S4 S5 S6 S7 S02 S03 S04 S05 S06 hD rN rW
  have B7 : But a H H7 := But.of S07
  have ha7 := S07 _ _ ha
  -- the fields
  refine ⟨_, rfl, aw, ws, rfl, hw.same S07, fun t1 G1 T1 q1 => ?_⟩
  refine ⟨_, rfl, a, _, dx, _, rfl, T1 _ _ ha7, T.c_Rollout, T.n_Rollout_writers, (show 0 < 1000 by decide), ?_⟩
  have e1 : But a G1 (upd G1 a (.ins (ga K "Rollout") dx [("writers", .ref t1)])) := But.upd
  have B := (B7.trans (But.of T1)).trans e1
  have q1 := q1.ins (T1 _ _ ha7) e1
  have hg : upd G1 a (.ins (ga K "Rollout") dx [("writers", .ref t1)]) a = some (.ins (ga K "Rollout") dx [("writers", .ref t1)]) := upd_same
  clear e1 T1 ha7 B7 S07
  rw [show putF ("writers" : Str) (V.ref t1) ([] : List (Str × V)) = ([("writers", .ref t1)] : List (Str × V)) from rfl]
  generalize upd G1 a (.ins (ga K "Rollout") dx [("writers", .ref t1)]) = G at B q1 hg ⊢
  refine ⟨_, rfl, _, rfl, a, _, dx, _, rfl, hg, T.c_Rollout, T.n_Rollout_fill, (show 1 < 1000 by decide), ?_⟩
  have e1 : But a G (upd G a (.ins (ga K "Rollout") dx [("writers", .ref t1), ("fill", .ref af)])) := But.upd
  have B := B.trans e1
  have q1 := q1.ins hg e1
  have hg : upd G a (.ins (ga K "Rollout") dx [("writers", .ref t1), ("fill", .ref af)]) a = some (.ins (ga K "Rollout") dx [("writers", .ref t1), ("fill", .ref af)]) := upd_same
  clear e1
  rw [show putF ("fill" : Str) (V.ref af) ([("writers", .ref t1)] : List (Str × V)) = ([("writers", .ref t1), ("fill", .ref af)] : List (Str × V)) from rfl]
  generalize upd G a (.ins (ga K "Rollout") dx [("writers", .ref t1), ("fill", .ref af)]) = G at B q1 hg ⊢
  refine ⟨_, rfl, ap, ps, rfl, hp.ins ha B, fun t2 G2 T2 q2 => ?_⟩
  refine ⟨_, rfl, a, _, dx, _, rfl, T2 _ _ hg, T.c_Rollout, T.n_Rollout_phases, (show 2 < 1000 by decide), ?_⟩
  have e1 : But a G2 (upd G2 a (.ins (ga K "Rollout") dx [("writers", .ref t1), ("fill", .ref af), ("phases", .ref t2)])) := But.upd
  have B := (B.trans (But.of T2)).trans e1
  have q1 := (q1.same T2).ins (T2 _ _ hg) e1
  have q2 := q2.ins (T2 _ _ hg) e1
  have hg : upd G2 a (.ins (ga K "Rollout") dx [("writers", .ref t1), ("fill", .ref af), ("phases", .ref t2)]) a = some (.ins (ga K "Rollout") dx [("writers", .ref t1), ("fill", .ref af), ("phases", .ref t2)]) := upd_same
  clear e1 T2
  rw [show putF ("phases" : Str) (V.ref t2) ([("writers", .ref t1), ("fill", .ref af)] : List (Str × V)) = ([("writers", .ref t1), ("fill", .ref af), ("phases", .ref t2)] : List (Str × V)) from rfl]
  generalize upd G2 a (.ins (ga K "Rollout") dx [("writers", .ref t1), ("fill", .ref af), ("phases", .ref t2)]) = G at B q1 q2 hg ⊢
  refine ⟨_, rfl, _, rfl, a, _, dx, _, rfl, hg, T.c_Rollout, T.n_Rollout_workers, (show 3 < 1000 by decide), ?_⟩
  have e1 : But a G (upd G a (.ins (ga K "Rollout") dx [("writers", .ref t1), ("fill", .ref af), ("phases", .ref t2), ("workers", .int wk)])) := But.upd
  have B := B.trans e1
  have q1 := q1.ins hg e1
  have q2 := q2.ins hg e1
  have hg : upd G a (.ins (ga K "Rollout") dx [("writers", .ref t1), ("fill", .ref af), ("phases", .ref t2), ("workers", .int wk)]) a = some (.ins (ga K "Rollout") dx [("writers", .ref t1), ("fill", .ref af), ("phases", .ref t2), ("workers", .int wk)]) := upd_same
  clear e1
  rw [show putF ("workers" : Str) (V.int wk) ([("writers", .ref t1), ("fill", .ref af), ("phases", .ref t2)] : List (Str × V)) = ([("writers", .ref t1), ("fill", .ref af), ("phases", .ref t2), ("workers", .int wk)] : List (Str × V)) from rfl]
  generalize upd G a (.ins (ga K "Rollout") dx [("writers", .ref t1), ("fill", .ref af), ("phases", .ref t2), ("workers", .int wk)]) = G at B q1 q2 hg ⊢
  refine ⟨_, rfl, _, rfl, a, _, dx, _, rfl, hg, T.c_Rollout, T.n_Rollout_hands, (show 4 < 1000 by decide), ?_⟩
  have e1 : But a G (upd G a (.ins (ga K "Rollout") dx [("writers", .ref t1), ("fill", .ref af), ("phases", .ref t2), ("workers", .int wk), ("hands", .int hd)])) := But.upd
  have B := B.trans e1
  have q1 := q1.ins hg e1
  have q2 := q2.ins hg e1
  have hg : upd G a (.ins (ga K "Rollout") dx [("writers", .ref t1), ("fill", .ref af), ("phases", .ref t2), ("workers", .int wk), ("hands", .int hd)]) a = some (.ins (ga K "Rollout") dx [("writers", .ref t1), ("fill", .ref af), ("phases", .ref t2), ("workers", .int wk), ("hands", .int hd)]) := upd_same
  clear e1
  rw [show putF ("hands" : Str) (V.int hd) ([("writers", .ref t1), ("fill", .ref af), ("phases", .ref t2), ("workers", .int wk)] : List (Str × V)) = ([("writers", .ref t1), ("fill", .ref af), ("phases", .ref t2), ("workers", .int wk), ("hands", .int hd)] : List (Str × V)) from rfl]
  generalize upd G a (.ins (ga K "Rollout") dx [("writers", .ref t1), ("fill", .ref af), ("phases", .ref t2), ("workers", .int wk), ("hands", .int hd)]) = G at B q1 q2 hg ⊢
  refine ⟨_, rfl, ab, bs, rfl, hb.ins ha B, fun t3 G3 T3 q3 => ?_⟩
  refine ⟨_, rfl, a, _, dx, _, rfl, T3 _ _ hg, T.c_Rollout, T.n_Rollout_back, (show 5 < 1000 by decide), ?_⟩
  have e1 : But a G3 (upd G3 a (.ins (ga K "Rollout") dx [("writers", .ref t1), ("fill", .ref af), ("phases", .ref t2), ("workers", .int wk), ("hands", .int hd), ("back", .ref t3)])) := But.upd
  have B := (B.trans (But.of T3)).trans e1
  have q1 := (q1.same T3).ins (T3 _ _ hg) e1
  have q2 := (q2.same T3).ins (T3 _ _ hg) e1
  have q3 := q3.ins (T3 _ _ hg) e1
  have hg : upd G3 a (.ins (ga K "Rollout") dx [("writers", .ref t1), ("fill", .ref af), ("phases", .ref t2), ("workers", .int wk), ("hands", .int hd), ("back", .ref t3)]) a = some (.ins (ga K "Rollout") dx [("writers", .ref t1), ("fill", .ref af), ("phases", .ref t2), ("workers", .int wk), ("hands", .int hd), ("back", .ref t3)]) := upd_same
  clear e1 T3
  rw [show putF ("back" : Str) (V.ref t3) ([("writers", .ref t1), ("fill", .ref af), ("phases", .ref t2), ("workers", .int wk), ("hands", .int hd)] : List (Str × V)) = ([("writers", .ref t1), ("fill", .ref af), ("phases", .ref t2), ("workers", .int wk), ("hands", .int hd), ("back", .ref t3)] : List (Str × V)) from rfl]
  generalize upd G3 a (.ins (ga K "Rollout") dx [("writers", .ref t1), ("fill", .ref af), ("phases", .ref t2), ("workers", .int wk), ("hands", .int hd), ("back", .ref t3)]) = G at B q1 q2 q3 hg ⊢
  -- counts
  dsimp only [tSeq, sFld, tCB, tCons, tNil]
  refine rd_proms (u := "once") (σ := [some (.ref a), some (.ref aw), some (.ref af), some (.ref ap), some (.int wk), some (.int hd), some (.ref ab), some .non, none, none]) (a := ap) (xs := ps) (ds := ds) T rfl rfl (hp.ins ha B) (pp.ph ha B) (by omega) ?_
  intro D1 G4 b1 S4 hD
  refine ⟨D1, b1, rfl, SqL.of hD, ?_⟩
  refine ⟨_, rfl, a, _, dx, _, rfl, S4 _ _ hg, T.c_Rollout, T.n_Rollout_counts, (show 6 < 1000 by decide), ?_⟩
  generalize b1.any id = c1
  have e1 : But a G4 (upd G4 a (.ins (ga K "Rollout") dx [("writers", .ref t1), ("fill", .ref af), ("phases", .ref t2), ("workers", .int wk), ("hands", .int hd), ("back", .ref t3), ("counts", .bl c1)])) := But.upd
  have B := (B.trans (But.of S4)).trans e1
  have q1 := (q1.same S4).ins (S4 _ _ hg) e1
  have q2 := (q2.same S4).ins (S4 _ _ hg) e1
  have q3 := (q3.same S4).ins (S4 _ _ hg) e1
  have hg : upd G4 a (.ins (ga K "Rollout") dx [("writers", .ref t1), ("fill", .ref af), ("phases", .ref t2), ("workers", .int wk), ("hands", .int hd), ("back", .ref t3), ("counts", .bl c1)]) a = some (.ins (ga K "Rollout") dx [("writers", .ref t1), ("fill", .ref af), ("phases", .ref t2), ("workers", .int wk), ("hands", .int hd), ("back", .ref t3), ("counts", .bl c1)]) := upd_same
  clear e1 S4 hD
  rw [show putF ("counts" : Str) (V.bl c1) ([("writers", .ref t1), ("fill", .ref af), ("phases", .ref t2), ("workers", .int wk), ("hands", .int hd), ("back", .ref t3)] : List (Str × V)) = ([("writers", .ref t1), ("fill", .ref af), ("phases", .ref t2), ("workers", .int wk), ("hands", .int hd), ("back", .ref t3), ("counts", .bl c1)] : List (Str × V)) from rfl]
  generalize upd G4 a (.ins (ga K "Rollout") dx [("writers", .ref t1), ("fill", .ref af), ("phases", .ref t2), ("workers", .int wk), ("hands", .int hd), ("back", .ref t3), ("counts", .bl c1)]) = G at B q1 q2 q3 hg ⊢
  refine rd_proms (u := "kept") (σ := [some (.ref a), some (.ref aw), some (.ref af), some (.ref ap), some (.int wk), some (.int hd), some (.ref ab), some .non, none, none]) (a := ap) (xs := ps) (ds := ds) T rfl rfl (hp.ins ha B) (pp.ph ha B) (by omega) ?_
  intro D1 G4 b1 S4 hD
  refine ⟨D1, b1, rfl, SqL.of hD, ?_⟩
  refine ⟨_, rfl, a, _, dx, _, rfl, S4 _ _ hg, T.c_Rollout, T.n_Rollout_keeps, (show 7 < 1000 by decide), ?_⟩
  generalize b1.any id = c2
  exact k _ ((B.trans (But.of S4)).trans But.upd) ⟨dx, t1, t2, t3, c1, c2, upd_same, (q1.same S4).ins (S4 _ _ hg) But.upd, (q2.same S4).ins (S4 _ _ hg) But.upd, (q3.same S4).ins (S4 _ _ hg) But.upd⟩
end
end K55

set_option maxRecDepth 100000
set_option maxHeartbeats 4000000
/-! len of an own instance with an own __len__. -/
namespace L2
open PySem PySem.Spec PyProof.Rows
section
variable {X : Cx} {CX : CXT} {C g : Addr} {n : Nat} {sp : Sp} {E : XK}
def rLenO (C : Addr) (sp : Sp) (E : XK) (X : Cx) : List V → Hp → VK → Prop := fun xs H Q => ∃ a : Addr, xs = [V.ref a] ∧ StX.InsC X H a C ∧ sp [.ref a] H (fun z H' => ∃ i : Int, z = .int i ∧ 0 ≤ i ∧ i < 1000000 ∧ Q (.int i) H') E
theorem call_lenO (hs : PySem.W.findIn X.K (.ref C) "__len__" = some (some (.ref g))) (hf : PySem.W.isFn X.K (.ref g) = true) (F : FnR X.prog X.w X.K X.mg X.base CX n g sp) (hr : Room (n + 1) X.A) (hx : Passes CX X E) : CallR X (.builtin "len") (rLenO C sp E X) := by
  intro pins s σ H xs us Q I r h
  obtain ⟨a, rfl, ia, q⟩ := h
  obtain ⟨u, rfl, ru⟩ := r.one
  cases (show u = Value.ref a from ru)
  obtain ⟨ox, od, at_, _⟩ := StX.insC_at I ia
  obtain ⟨m, fr⟩ := I.fr
  have hr2 : Room n X.A.in1 := Room.in1 hr
  refine PySem.W.len_K fr I.ok.mod.kin at_ hs hf (wpAny_mono (wpAny_call (SlX.run_at (us := [.ref a]) (ws := [.ref a]) F hr2 I.env0.in1 hx I (.cons rfl .nil) q)) (fun w s' z => ?_) fun _ _ x => x)
  obtain ⟨z', H', I', rz, i, ei, i0, i1, qz⟩ := z
  subst ei
  obtain ⟨t, e⟩ := (show ∃ t, w = Value.int i t from rz)
  cases e
  exact ⟨⟨i0, by omega⟩, .int i, H', I'.tok _, ⟨_, rfl⟩, qz⟩
end
end L2

set_option maxRecDepth 100000
set_option maxHeartbeats 4000000
namespace K55
open PySem PySem.Spec PyProof.Rows L2 He VH RZ
/-! Fill(..), Rollout(..), rebuilt(..), len(a Rollout) -/
abbrev sReb : Stmt := top 62
abbrev sChR : Stmt := top 55
abbrev sRoL : Stmt := inClass (top 53) 1
abbrev FnReb (K : PySem.W.Frag) (fd : FuncData) : Prop := FnP K "rebuilt" sReb (ga K "rebuilt") fd
abbrev FnChR (K : PySem.W.Frag) (fd : FuncData) : Prop := FnP K "check_rollout" sChR (ga K "check_rollout") fd
abbrev FnRoL (K : PySem.W.Frag) (fd : FuncData) : Prop := FnM K "__len__" "Rollout.__len__" 53 1 (ma K (ga K "Rollout") "__len__") fd
theorem bReb {K : PySem.W.Frag} {fd : FuncData} (F : FnReb K fd) : Binds K fd ["rollout", "writers", "fill", "phases", "back"] [] := FunD.bindsN F fun _ _ _ _ _ _ us hl => match us, hl with | [_, _, _, _, _], _ => rfl
theorem bChR {K : PySem.W.Frag} {fd : FuncData} (F : FnChR K fd) : Binds K fd ["value"] [] := FunD.bindsN F fun _ _ _ _ _ _ us hl => match us, hl with | [_], _ => rfl
theorem bRoL {K : PySem.W.Frag} {fd : FuncData} (F : FnRoL K fd) : Binds K fd ["self"] [] := FunD.bindsN F fun _ _ _ _ _ _ us hl => match us, hl with | [_], _ => rfl
section
variable {K : PySem.W.Frag} {fd : FuncData}
theorem kRo (F : FnRoI K fd) : ∃ mv : List Value, KBn K fd pRoI 4 ["workers", "hands", "back"] (fun us ws => us ++ (mv ++ ws)) (fun vs zs => vs ++ (((([] : List (Str × V)).map (·.2)) ++ zs))) :=
  FunD.kbinds0 F 4 ["workers", "hands", "back"] [] (fun us its ws => us ++ (its ++ ws)) (by simp [kwR]) (by simp) (fun a d b => a.append (d.append b))
    fun D doc pm an cdv ct us mv ws l1 l2 l3 => match us, mv, ws, l1, l2, l3 with
      | [_, _, _, _], [], [_, _, _], _, _, _ => rfl
theorem kFl (F : FnFlI K fd) : ∃ mv : List Value, KBn K fd pFlI 2 ["batch", "save", "lock", "only_missing", "falls", "again"] (fun us ws => us ++ (mv ++ ws)) (fun vs zs => vs ++ (((([] : List (Str × V)).map (·.2)) ++ zs))) :=
  FunD.kbinds0 F 2 ["batch", "save", "lock", "only_missing", "falls", "again"] [] (fun us its ws => us ++ (its ++ ws)) (by simp [kwF]) (by simp) (fun a d b => a.append (d.append b))
    fun D doc pm an cdv ct us mv ws l1 l2 l3 => match us, mv, ws, l1, l2, l3 with
      | [_, _], [], [_, _, _, _, _, _], _, _, _ => rfl
end
theorem But.new {a : Addr} {H H' : Hp} (h : But a H H') (n : H a = none) : Same H H' := fun b o e => h b o (fun z => by rw [z, n] at e; cases e) e
theorem RoAt.same {K : PySem.W.Frag} {H H' : Hp} {a fa : Addr} {ws ps bs : List V} {d : Ro} (h : RoAt K H a ws ps bs fa d) (s : Same H H') : RoAt K H' a ws ps bs fa d := by
  obtain ⟨dx, t1, t2, t3, c1, c2, h, a1, a2, a3⟩ := h
  exact ⟨dx, t1, t2, t3, c1, c2, s _ _ h, a1.same s, a2.same s, a3.same s⟩
theorem Parts.same {K : PySem.W.Frag} {H H' : Hp} {ws ps bs : List V} {fa : Addr} {d : Ro} (h : Parts K H ws ps bs fa d) (s : Same H H') : Parts K H' ws ps bs fa d where
  w := h.w.same fun _ _ h => h.same s
  f := h.f.same s
  p := h.p.same fun _ _ h => h.same s
  b := h.b.same fun _ _ h => h.same s
/-- a Rollout with its parts -/
structure Roll (K : PySem.W.Frag) (H : Hp) (a : Addr) (ws ps bs : List V) (fa : Addr) (d : Ro) : Prop where
  r : RoAt K H a ws ps bs fa d
  p : Parts K H ws ps bs fa d
  ok : d.Ok
theorem Roll.same {K : PySem.W.Frag} {H H' : Hp} {a fa : Addr} {ws ps bs : List V} {d : Ro} (h : Roll K H a ws ps bs fa d) (s : Same H H') : Roll K H' a ws ps bs fa d := ⟨h.r.same s, h.p.same s, h.ok⟩
theorem RoAt.ty {K : PySem.W.Frag} {mg : Str → Option Value} {w : World} (T : Txt K mg w) {H : Hp} {a fa : Addr} {ws ps bs : List V} {d : Ro} (h : RoAt K H a ws ps bs fa d) : TyX K H (.ref a) (.ref (ga K "Rollout")) := by
  obtain ⟨dx, _, _, _, _, _, h, _⟩ := h
  exact .base (.ins h T.c_Rollout T.o_Rollout.cls T.dc1 T.dc2 T.o_Rollout.mro)
def spReb (K : PySem.W.Frag) : Sp := fun vs H Q _ => ∃ (r aw af ap ab f0 : Addr) (w0 p0 b0 ws ps bs : List V) (d0 d : Ro), vs = [.ref r, .ref aw, .ref af, .ref ap, .ref ab] ∧ RoAt K H r w0 p0 b0 f0 d0 ∧ d0.wk = d.wk ∧ d0.hd = d.hd ∧
  SqV K H aw ws ∧ SqV K H ap ps ∧ SqV K H ab bs ∧ Parts K H ws ps bs af d ∧ d.Ok ∧ ∀ (a : Addr) (H' : Hp), Same H H' → RoAt K H' a ws ps bs af d → Q (.ref a) H'
def spRen : Sp := fun vs H Q _ => ∃ i j : Int, vs = [.int i, .int j] ∧ Q (.int (if j < i then i - 1 else i)) H
/-- passes if it is a Rollout -/
def spChR (K : PySem.W.Frag) : Sp := fun vs H Q E => ∃ x : V, vs = [x] ∧ ((∃ (a : Addr) (ws ps bs : List V) (fa : Addr) (d : Ro), x = .ref a ∧ RoAt K H a ws ps bs fa d ∧ Q .non H) ∨
  ((∃ t, TyX K H x t ∧ PySem.W.kitOne K t (.ref (ga K "Rollout")) = some false) ∧ ∀ (d : Addr) (H' : Hp), H d = none → Same H H' → H' d = some (.xd [("index", .int (-1)), ("part", .str "rollout")]) → E (.ref (ga K "NoRollout")) (some d) H'))
def spRoL (K : PySem.W.Frag) : Sp := fun vs H Q _ => ∃ (a : Addr) (ws ps bs : List V) (fa : Addr) (d : Ro), vs = [.ref a] ∧ RoAt K H a ws ps bs fa d ∧ Q (.int (ps.length : Nat)) H
section
variable {P : Program} {w : World} {K : PySem.W.Frag} {mg : Str → Option Value} {base : Heap} {f : Addr} {fd fdI fdX : FuncData}
theorem scReb : FnScope ["rollout", "writers", "fill", "phases", "back"] ["rollout", "writers", "fill", "phases", "back"] (defScope sReb) := ⟨rfl, rfl, rfl, by decide +kernel, rfl, by decide +kernel, by decide +kernel⟩
theorem Parts.up {H H' : Hp} {ws ps bs : List V} {fa : Addr} {d : Ro} (h : Parts K H ws ps bs fa d) (s : Same H H') : Parts K H' ws ps bs fa d := h.same s
theorem ok_reb (F : FnP K "rebuilt" sReb f fd) (T : Txt K mg w) (FI : FnRoI K fdI) (fns : Fns K) : FnOk P w K mg base (L2.CX P w) 7 f fd ["rollout", "writers", "fill", "phases", "back"] (spReb K) := by
  obtain ⟨mv, kb⟩ := kRo FI
  have GI : FnOk P w K mg base (L2.CX P w) 5 (ma K (ga K "Rollout") "__init__") fdI pRoI (spRoI K) := ok_roI FI T fns
  refine F.ok scReb (fun vs H Q E h => ?_) (fun cdv A outer s H vs Q E hr h => ?_)
  · obtain ⟨_, _, _, _, _, _, _, _, _, _, _, _, _, _, rfl, _⟩ := h
    rfl
  refine ⟨_, pss_one (ps_ret (pe_makeK (n := 3) (ks := ["workers", "hands", "back"]) T.mk_Rollout GI (hr.mono (by decide)) (by rfl) T.m_Rollout kb (pass_c (takes_of rfl rfl rfl rfl)) (pa_cons (pv 1) (pa_cons (pv 2) (pa_cons (pv 3) pa_nil)))
    (pk_cons (pe_fld (pv 0) (by rfl)) (pk_cons (pe_fld (pv 0) (by rfl)) (pk_cons (pv 4) pk_nil))))), ?_⟩
  obtain ⟨r, aw, af, ap, ab, f0, w0, p0, b0, ws, ps, bs, d0, d, rfl, hr0, e1, e2, hw, hp, hb, pt, od, k⟩ := h
  obtain ⟨dx0, t1, t2, t3, c1, c2, h0, _⟩ := hr0
  refine ⟨_, rfl, _, rfl, _, rfl, _, rfl, r, _, dx0, _, _, rfl, h0, T.c_Rollout, T.n_Rollout_workers, rfl, _, rfl, r, _, dx0, _, _, rfl, h0, T.c_Rollout, T.n_Rollout_hands, rfl, _, rfl, rfl, rfl, fun x dx nx nd ne => ?_⟩
  have S1 := Same.new (o := .own x) nd
  have nx1 : upd H dx (.own x) x = none := by rw [upd_ne (Ne.symm ne)]; exact nx
  have S2 := S1.trans (Same.new (o := .ins (ga K "Rollout") dx []) nx1)
  refine ⟨x, dx, aw, af, ap, ab, ws, ps, bs, d, by rw [e1, e2]; rfl, upd_same, hw.same S2, hp.same S2, hb.same S2, pt.same S2, od, fun H' B ro => ⟨rfl, k x H' ?_ ro⟩⟩
  exact But.new ((But.of S1).trans (But.upd.trans B)) nx
theorem scChR : FnScope ["value"] ["value"] (defScope sChR) := ⟨rfl, rfl, rfl, by decide +kernel, rfl, by decide +kernel, by decide +kernel⟩
theorem ok_chr (F : FnP K "check_rollout" sChR f fd) (T : Txt K mg w) (FX : FnNoR K fdX) : FnOk P w K mg base (L2.CX P w) 3 f fd ["value"] (spChR K) := by
  refine F.ok scChR (fun vs H Q E h => ?_) (fun cdv A outer s H vs Q E hr h => ?_)
  · obtain ⟨_, rfl, _⟩ := h
    rfl
  refine ⟨_, pss_one (ps_if (pt_not (pt_val (pe_callB call_isi (by rfl) T.g_isinstance boot_isinstance (pa_cons (pv 0) (pa_cons (pe_glob (v := .ref (ga K "Rollout")) (by rfl) T.m_Rollout rfl) pa_nil)))))
    (pss_one (ps_raise rfl (takes_of rfl rfl rfl rfl) (pmk_oex T.x_NoRollout.mkx.toOexC T.x_NoRollout.mkx.ini T.x_NoRollout.mkx.tyI (okNoR FX) (hr.mono (by decide)) (bNoR FX) .nil pass0 (by rfl) T.m_NoRollout (pa_cons pe_str (pa_cons (pe_un un_neg pe_int) pa_nil))))) pss_nil), ?_⟩
  obtain ⟨x, rfl, h⟩ := h
  rcases h with ⟨a, ws, ps, bs, fa, d, rfl, hr0, q⟩ | ⟨⟨t, ty, kk⟩, z⟩
  · exact ⟨_, rfl, _, _, _, _, true, rfl, .own (ga K "Rollout"), RoAt.ty T hr0, T.o_Rollout.kk, true, rfl, iteF q⟩
  · refine ⟨_, rfl, _, _, _, _, false, rfl, .own (ga K "Rollout"), ty, kk, false, rfl, iteT ?_⟩
    exact ⟨1, rfl, (show 2 ≤ 1000 by decide), fun p n => read_raise T.x_NoRollout [.str "rollout", .int (-1)] n rfl rfl (by simp) rfl fun d H' nd s e => z d H' nd s e⟩
theorem scRoL : FnScope ["self"] ["self"] (defScope sRoL) := ⟨rfl, rfl, rfl, by decide +kernel, rfl, by decide +kernel, by decide +kernel⟩
theorem ok_roL (F : FnM K "__len__" "Rollout.__len__" 53 1 f fd) (T : Txt K mg w) : FnOk P w K mg base CX0 1 f fd ["self"] (spRoL K) := by
  refine F.ok scRoL (fun vs H Q E h => ?_) (fun cdv A outer s H vs Q E hr h => ?_)
  · obtain ⟨_, _, _, _, _, _, rfl, _⟩ := h
    rfl
  refine ⟨_, PSs.nox (pss_one (ps_ret (pe_callB call_len_seq (by rfl) T.g_len boot_len (pa_cons (pe_fld (pv 0) (by rfl)) pa_nil)))), ?_⟩
  obtain ⟨a, ws, ps, bs, fa, d, rfl, hr0, q⟩ := h
  obtain ⟨dx, t1, t2, t3, c1, c2, h0, a1, a2, a3⟩ := hr0
  exact ⟨_, rfl, a, _, dx, _, _, rfl, h0, T.c_Rollout, T.n_Rollout_phases, rfl, t2, ps, rfl, .inr a2, q⟩
end
section
variable {X : Cx} {fd : FuncData}
theorem raw0 {P : Program} {w : World} {K : PySem.W.Frag} {mg : Str → Option Value} {base : Heap} {f : Addr} {fd : FuncData} {CX : CXT} {k : Nat} {ps : List Str} {sp : Sp} (F : FnOk P w K mg base CX k f fd ps sp) (b : Binds K fd ps []) : FnR P w K mg base CX k f sp :=
  fun A o s H us vs Q E hr en va h => F.raw b .nil A o s H us vs Q E hr en va (by
    show sp (vs ++ []) H Q E
    rw [List.append_nil]
    exact h)
theorem call_lenR (T : Txt X.K X.mg X.w) (F : FnRoL X.K fd) (hr : Room 2 X.A) : CallR X (.builtin "len") (rLenO (ga X.K "Rollout") (spRoL X.K) E0 X) :=
  call_lenO T.h_Rollout_len.at_ T.h_Rollout_len.fn (raw0 (ok_roL F T) (bRoL F)) hr pass0
theorem read_lenR {H : Hp} {a fa : Addr} {ws ps bs : List V} {d : Ro} {Q : VK} (h : RoAt X.K H a ws ps bs fa d) (l : ps.length ≤ 1000) (q : Q (.int (ps.length : Nat)) H) : rLenO (ga X.K "Rollout") (spRoL X.K) E0 X [.ref a] H Q := by
  refine ⟨a, rfl, .inr ?_, a, ws, ps, bs, fa, d, rfl, h, _, rfl, by omega, by omega, q⟩
  obtain ⟨dx, _, _, _, _, _, h, _⟩ := h
  exact ⟨dx, _, h⟩
end
end K55

set_option maxRecDepth 100000
set_option maxHeartbeats 4000000
namespace K55
open PySem PySem.Spec PyProof.Rows L2 He VH RZ
/-! what is right, said plainly; a Rollout without one of its Phases -/
theorem nodup_take {α : Type} {l : List α} : l.Nodup ↔ ∀ (k : Nat) (x : α), l[k]? = some x → x ∉ l.take k := by
  unfold List.Nodup
  rw [List.pairwise_iff_getElem]
  constructor
  · intro h k x e m
    obtain ⟨lk, rfl⟩ := List.getElem?_eq_some_iff.mp e
    obtain ⟨i, hi, e2⟩ := List.mem_take_iff_getElem.mp m
    exact h i k (by omega) lk (by omega) e2
  · intro h i j hi hj lt e
    exact h j _ (List.getElem?_eq_getElem hj) (e ▸ List.mem_take_iff_getElem.mpr ⟨i, by omega, rfl⟩)
theorem find_none {n : Nat} {ok : Nat → Bool} : (List.range n).find? (fun k => !ok k) = none ↔ ∀ k, k < n → ok k = true := by
  rw [List.find?_eq_none]
  constructor
  · intro h k l
    have := h k (List.mem_range.mpr l)
    simpa using this
  · intro h k m
    rw [h k (List.mem_range.mp m)]
    simp
theorem badN_iff {zs : List Str} : badN (zs.map some) = none ↔ zs.Nodup := by
  unfold badN
  rw [find_none, nodup_take, List.length_map]
  constructor
  · intro h k x e m
    have := h k (List.getElem?_eq_some_iff.mp e).1
    unfold okN at this
    rw [List.getElem?_map, e] at this
    simp only [Option.map_some, Bool.not_eq_true', ← List.map_take] at this
    have : ¬ (some x ∈ (zs.take k).map some) := by
      rw [← List.contains_iff_mem, this]
      simp
    exact this (List.mem_map.mpr ⟨x, m, rfl⟩)
  · intro h k l
    have e := List.getElem?_eq_getElem l
    have := h k _ e
    unfold okN
    rw [List.getElem?_map, e]
    simp only [Option.map_some, Bool.not_eq_true', ← List.map_take]
    rw [← Bool.not_eq_true, List.contains_iff_mem, List.mem_map]
    rintro ⟨y, hy, ey⟩
    cases ey
    exact this hy
theorem phN_map (ds : List Ph) : phN (ds.map some) = ds.map (·.z) := by
  unfold phN
  rw [List.filterMap_map]
  induction ds with
  | nil => rfl
  | cons a l ih =>
    simp [List.filterMap_cons]
    exact ih
theorem badP_iff {ds : List Ph} {kn : List Str} : badP (ds.map some) kn = none ↔ (ds.map (·.z)).Nodup ∧ ∀ d ∈ ds, d.ws.all kn.contains = true := by
  unfold badP
  rw [find_none, nodup_take, List.length_map]
  have one : ∀ (k : Nat) (d : Ph), ds[k]? = some d → okP (ds.map some) kn k = (!((ds.map (·.z)).take k).contains d.z && d.ws.all kn.contains) := fun k d e => by
    unfold okP
    rw [List.getElem?_map, e]
    simp only [Option.map_some]
    rw [← List.map_take, phN_map, List.map_take]
  constructor
  · intro h
    refine ⟨fun k x e m => ?_, fun d hd => ?_⟩
    · rw [List.getElem?_map] at e
      obtain ⟨d, ed, rfl⟩ := Option.map_eq_some_iff.mp e
      have := h k (List.getElem?_eq_some_iff.mp ed).1
      rw [one k d ed, Bool.and_eq_true] at this
      have c := List.contains_iff_mem.mpr m
      rw [c] at this
      exact Bool.noConfusion this.1
    · obtain ⟨k, lk, e⟩ := List.mem_iff_getElem.mp hd
      have := h k lk
      rw [one k d (by rw [List.getElem?_eq_getElem lk, e]), Bool.and_eq_true] at this
      exact this.2
  · intro ⟨h1, h2⟩ k l
    have e := List.getElem?_eq_getElem l
    rw [one k _ e, h2 _ (List.getElem_mem l), Bool.and_true, Bool.not_eq_true', ← Bool.not_eq_true, List.contains_iff_mem]
    exact h1 k _ (by rw [List.getElem?_map, e]; rfl)
theorem badY_iff {rs : List (Int × Int)} {m : Int} : badY rs m = none ↔ rs.Nodup ∧ ∀ r ∈ rs, 0 ≤ r.2 ∧ r.2 < r.1 ∧ r.1 < m := by
  unfold badY
  rw [find_none, nodup_take]
  have wy : ∀ r : Int × Int, wayB (some r.1) (some r.2) m = true ↔ 0 ≤ r.2 ∧ r.2 < r.1 ∧ r.1 < m := fun r => by
    unfold wayB btwB
    simp only [Bool.and_eq_true, decide_eq_true_eq]
    omega
  have one : ∀ (k : Nat) (r : Int × Int), rs[k]? = some r → okY rs m k = (wayB (some r.1) (some r.2) m && !(rs.take k).contains r) := fun k r e => by
    unfold okY
    rw [e]
  constructor
  · intro h
    refine ⟨fun k x e mm => ?_, fun r hr => ?_⟩
    · have := h k (List.getElem?_eq_some_iff.mp e).1
      rw [one k x e, Bool.and_eq_true] at this
      have c := List.contains_iff_mem.mpr mm
      rw [c] at this
      exact Bool.noConfusion this.2
    · obtain ⟨k, lk, e⟩ := List.mem_iff_getElem.mp hr
      have := h k lk
      rw [one k r (by rw [List.getElem?_eq_getElem lk, e]), Bool.and_eq_true] at this
      exact (wy r).mp this.1
  · intro ⟨h1, h2⟩ k l
    have e := List.getElem?_eq_getElem l
    rw [one k _ e, (wy _).mpr (h2 _ (List.getElem_mem l)), Bool.true_and, Bool.not_eq_true', ← Bool.not_eq_true, List.contains_iff_mem]
    exact h1 k _ e
/-- a number behind the gone one -/
def ren (k i : Int) : Int := if k < i then i - 1 else i
def cutR (k : Int) (rs : List (Int × Int)) : List (Int × Int) := (rs.filter fun r => decide (¬ (r.1 = k ∨ r.2 = k))).map fun r => (ren k r.1, ren k r.2)
def cutL {α : Type} (k : Nat) (l : List α) : List α := l.take k ++ l.drop (k + 1)
def Ro.cut (d : Ro) (k : Nat) : Ro := ⟨d.zs, cutL k d.ds, d.wk, d.hd, cutR k d.rs⟩
theorem cutL_len {α : Type} {k : Nat} {l : List α} (h : k < l.length) : (cutL k l).length = l.length - 1 := by
  unfold cutL
  rw [List.length_append, List.length_take, List.length_drop]
  omega
theorem cutL_sub {α : Type} (k : Nat) (l : List α) : (cutL k l).Sublist l := by
  unfold cutL
  have : (l.take k ++ l.drop (k + 1)).Sublist (l.take k ++ l.drop k) := by
    refine List.Sublist.append (List.Sublist.refl _) ?_
    rw [← List.drop_drop]
    exact List.drop_sublist 1 _
  rwa [List.take_append_drop] at this
theorem cutL_map {α β : Type} (g : α → β) (k : Nat) (l : List α) : (cutL k l).map g = cutL k (l.map g) := by
  unfold cutL
  rw [List.map_append, List.map_take, List.map_drop]
theorem cutR_ok {k : Nat} {rs : List (Int × Int)} {n : Nat} (hk : k < n) (h : badY rs n = none) : badY (cutR k rs) ((n - 1 : Nat) : Int) = none := by
  obtain ⟨nd, all⟩ := badY_iff.mp h
  refine badY_iff.mpr ⟨?_, fun r hr => ?_⟩
  · unfold cutR List.Nodup
    rw [List.pairwise_map]
    refine List.Pairwise.imp_of_mem ?_ (nd.sublist List.filter_sublist)
    intro a b ha hb ne e
    have pa := (List.mem_filter.mp ha).2
    have pb := (List.mem_filter.mp hb).2
    simp only [decide_eq_true_eq] at pa pb
    obtain ⟨e1, e2⟩ := Prod.mk.inj e
    apply ne
    unfold ren at e1 e2
    refine Prod.ext ?_ ?_
    · split at e1 <;> split at e1 <;> omega
    · split at e2 <;> split at e2 <;> omega
  · unfold cutR at hr
    obtain ⟨q, hq, rfl⟩ := List.mem_map.mp hr
    obtain ⟨m, p⟩ := List.mem_filter.mp hq
    simp only [decide_eq_true_eq] at p
    obtain ⟨a0, a1, a2⟩ := all q m
    simp only [ren]
    refine ⟨?_, ?_, ?_⟩
    · split <;> omega
    · split <;> split <;> omega
    · split <;> omega
theorem Ro.cut_ok {d : Ro} {k : Nat} (h : d.Ok) (hk : k < d.ds.length) (two : d.ds.length ≠ 1) : (d.cut k).Ok where
  z1 := h.z1
  z4 := h.z4
  zn := h.zn
  p1 := by
    show 1 ≤ (cutL k d.ds).length
    rw [cutL_len hk]
    have := h.p1
    omega
  p6 := by
    show (cutL k d.ds).length ≤ 6
    rw [cutL_len hk]
    have := h.p6
    omega
  pn := by
    obtain ⟨a, b⟩ := badP_iff.mp h.pn
    refine badP_iff.mpr ⟨?_, fun e he => b e ((cutL_sub k d.ds).subset he)⟩
    exact a.sublist ((cutL_sub k d.ds).map _)
  w1 := h.w1
  w2 := h.w2
  h0 := h.h0
  h2 := h.h2
  bl := by
    show (cutR k d.rs).length ≤ 1000
    unfold cutR
    rw [List.length_map]
    exact Nat.le_trans (List.length_filter_le _ _) h.bl
  bn := by
    show badY (cutR k d.rs) ((cutL k d.ds).length : Nat) = none
    rw [cutL_len hk]
    exact cutR_ok hk h.bn
theorem Each.cut {α : Type} {p : Hp → V → α → Prop} {H : Hp} {xs : List V} {zs : List α} (h : Each p H xs zs) (k : Nat) : Each p H (cutL k xs) (cutL k zs) := by
  have ll := h.1
  unfold cutL
  refine ⟨by simp only [List.length_append, List.length_take, List.length_drop, ll], fun i x e => ?_⟩
  rw [List.getElem?_append] at e ⊢
  rw [List.length_take] at e ⊢
  rw [← ll]
  by_cases c : i < min k xs.length
  · rw [if_pos c] at e ⊢
    rw [List.getElem?_take_of_lt (by omega)] at e ⊢
    exact h.2 i x e
  · rw [if_neg c] at e ⊢
    rw [List.getElem?_drop] at e ⊢
    exact h.2 _ x e
end K55

set_option maxRecDepth 100000
set_option maxHeartbeats 4000000
/-! Slices and sums of tuples, told by their items alone. -/
namespace L2
open PySem PySem.Spec PyProof.Rows
theorem cut_whole {xs : List V} {lo hi : Option Int} (h : HT.sIx xs.length 0 lo = 0 ∧ HT.sIx xs.length xs.length hi = xs.length) : cutV xs lo hi = xs := by
  unfold cutV
  rw [h.1, h.2]
  simp
def rSlZ (K : PySem.W.Frag) : V → Option Int → Option Int → Hp → VK → Prop := fun x lo hi H Q => ∃ a xs, x = .ref a ∧ SqT K H a xs ∧ ∀ (q : Addr) (G : Hp), Same H G → SqT K G q (cutV xs lo hi) → Q (.ref q) G
theorem sl_tupZ {X : Cx} : SlR X (rSlZ X.K) := by
  intro pins s σ H x v vl vu lo hi sl Q I rx hs pl pu h
  obtain ⟨a, xs, rfl, hx, k⟩ := h
  refine sl_tupA pins s σ H _ v vl vu lo hi sl Q I rx hs pl pu ⟨a, xs, rfl, hx, fun w => k a H (Same.refl H) (by rw [cut_whole w]; exact hx), fun _ p np => k p _ (Same.new np) (SqT.of upd_same)⟩
def rCatZ (K : PySem.W.Frag) : R2 := fun x y H Q => ∃ a b xs ys, x = .ref a ∧ y = .ref b ∧ SqT K H a xs ∧ SqT K H b ys ∧ xs.length + ys.length ≤ sizeLine ∧ ∀ (q : Addr) (G : Hp), Same H G → SqT K G q (xs ++ ys) → Q (.ref q) G
theorem op_catZ {X : Cx} : OpR X (binaryOp .Add) (rCatZ X.K) := by
  intro pins s σ H x y v u Q I rx ry h
  obtain ⟨a, b, xs, ys, rfl, rfl, ha, hb, l, k⟩ := h
  refine op_catA pins s σ H _ _ v u Q I rx ry ⟨a, b, xs, ys, rfl, rfl, ha, hb, l, fun e => ?_, fun _ e => ?_, fun _ _ p np => k p _ (Same.new np) (SqT.of upd_same)⟩
  · subst e
    exact k b H (Same.refl H) hb
  · subst e
    exact k a H (Same.refl H) (by rw [List.append_nil]; exact ha)
end L2

set_option maxRecDepth 100000
set_option maxHeartbeats 4000000
namespace K55
open PySem PySem.Spec PyProof.Rows L2 He VH RZ
/-! without -/
abbrev sNoN : Stmt := inClass (top 3) 0
abbrev FnNoN (K : PySem.W.Frag) (fd : FuncData) : Prop := FnM K "__init__" "NoNumber.__init__" 3 0 (ma K (ga K "NoNumber") "__init__") fd
/-- NoNumber(u) is raised out of H -/
def Rnum (K : PySem.W.Frag) (E : XK) (H : Hp) (u : Str) : Prop := ∀ (d : Addr) (H' : Hp), H d = none → Same H H' → H' d = some (.xd [("part", .str u)]) → E (.ref (ga K "NoNumber")) (some d) H'
theorem Rnum.same {K : PySem.W.Frag} {E : XK} {H H' : Hp} {u : Str} (h : Rnum K E H u) (s : Same H H') : Rnum K E H' u := fun d H2 n s2 e => h d H2 (s.free n) (s.trans s2) e
/-- NoRollout("rollout", -1) -/
def Rro (K : PySem.W.Frag) (E : XK) (H : Hp) : Prop := ∀ (d : Addr) (H' : Hp), H d = none → Same H H' → H' d = some (.xd [("index", .int (-1)), ("part", .str "rollout")]) → E (.ref (ga K "NoRollout")) (some d) H'
def NoRo (K : PySem.W.Frag) (H : Hp) (x : V) : Prop := ∃ t, TyX K H x t ∧ PySem.W.kitOne K t (.ref (ga K "Rollout")) = some false
/-- a number from 0 to n - 1 -/
def numB (r : Option Int) (n : Nat) : Bool := btwB r 0 ((n : Int) - 1)
def spWit (K : PySem.W.Frag) : Sp := fun vs H Q E => ∃ x y : V, vs = [x, y] ∧ ((NoRo K H x ∧ Rro K E H) ∨
  ∃ (a fa : Addr) (ws ps bs : List V) (d : Ro) (r : Option Int), x = .ref a ∧ Roll K H a ws ps bs fa d ∧ isI K H y r ∧
    ((ps.length = 1 ∨ numB r ps.length = false) → Rnum K E H "phase") ∧
    (∀ k : Nat, r = some (k : Int) → k < ps.length → ps.length ≠ 1 → ∀ (c : Addr) (H' : Hp) (bs' : List V), Same H H' → Roll K H' c ws (cutL k ps) bs' fa (d.cut k) → Q (.ref c) H'))
section
variable {P : Program} {w : World} {K : PySem.W.Frag} {mg : Str → Option Value} {base : Heap} {f : Addr} {fd : FuncData}
theorem scNoN : FnScope ["self", "part"] ["self", "part"] (defScope sNoN) := ⟨rfl, rfl, rfl, by decide +kernel, rfl, by decide +kernel, by decide +kernel⟩
theorem okNoN (F : FnM K "__init__" "NoNumber.__init__" 3 0 f fd) : FnOk P w K mg base CX0 1 f fd ["self", "part"] (spIni K ["part"]) := by
  refine F.ok scNoN (fun vs H Q E h => ?_) (fun cdv A outer s H vs Q E hr h => ?_)
  · obtain ⟨a, C, v, rfl, _⟩ := ini1 h
    rfl
  refine ⟨_, PSs.nox (pss_one (ps_ost (pv 0) (pv 1))), ?_⟩
  obtain ⟨a, C, v, rfl, T, no, ha, k⟩ := ini1 h
  exact ⟨_, rfl, _, rfl, a, C, rfl, T, no, .inl ⟨ha, fun dx n ne => k dx n ne⟩⟩
theorem bNoN (F : FnM K "__init__" "NoNumber.__init__" 3 0 f fd) : Binds K fd ["self", "part"] [] := FunD.bindsN F fun _ _ _ _ _ _ us hl => match us, hl with | [_, _], _ => rfl
theorem Each.snoc {α : Type} {p : Hp → V → α → Prop} {H : Hp} {xs : List V} {zs : List α} {x : V} {z : α} (h : Each p H xs zs) (hx : p H x z) : Each p H (xs ++ [x]) (zs ++ [z]) := by
  refine ⟨by rw [List.length_append, List.length_append, h.1]; rfl, fun i y e => ?_⟩
  rw [List.getElem?_append] at e ⊢
  rw [← h.1]
  by_cases c : i < xs.length
  · rw [if_pos c] at e ⊢
    exact h.2 i y e
  · rw [if_neg c] at e ⊢
    obtain ⟨l, _⟩ := List.getElem?_eq_some_iff.mp e
    have : i - xs.length = 0 := by
      have : i - xs.length < 1 := l
      omega
    rw [this] at e ⊢
    cases e
    exact ⟨z, rfl, hx⟩
theorem in_pair {k a b : Int} : inV (.int k) [.int a, .int b] = decide (a = k ∨ b = k) := by
  show ((a == k) || ((b == k) || false)) = _
  by_cases h1 : a = k <;> by_cases h2 : b = k <;> simp [h1, h2]
theorem cut_drop {xs : List V} {k : Nat} (h : k < xs.length) : cutV xs (some ((k : Int) + 1)) none = xs.drop (k + 1) := by
  unfold cutV
  rw [HT.sIx_none, show ((k : Int) + 1) = ((k + 1 : Nat) : Int) by omega, HT.sIx_nat, Nat.min_eq_left (by omega)]
  rw [List.take_of_length_le]
  rw [List.length_drop]
  omega
abbrev nWit : List Str := ["rollout", "phase", "phases", "back", "way", "at"]
end
end K55

set_option maxRecDepth 100000
set_option maxHeartbeats 4000000
namespace K55
open PySem PySem.Spec PyProof.Rows L2 He VH RZ
/-! with_way -/
def Ro.add (d : Ro) (r : Int × Int) : Ro := ⟨d.zs, d.ds, d.wk, d.hd, d.rs ++ [r]⟩
theorem nodup_len {α : Type} [DecidableEq α] : ∀ {l m : List α}, l.Nodup → (∀ x ∈ l, x ∈ m) → l.length ≤ m.length
  | [], _, _, _ => Nat.zero_le _
  | a :: l, m, nd, sub => by
    obtain ⟨h1, h2⟩ := List.nodup_cons.mp nd
    have ha := sub a (List.mem_cons_self ..)
    have := nodup_len (m := m.erase a) h2 fun x hx => (List.mem_erase_of_ne (fun e : x = a => h1 (by rw [← e]; exact hx))).mpr (sub x (List.mem_cons_of_mem _ hx))
    rw [List.length_erase_of_mem ha] at this
    have := List.length_pos_of_mem ha
    rw [List.length_cons]
    omega
theorem ways_few {rs : List (Int × Int)} {n : Nat} (h : badY rs n = none) (l : n ≤ 6) : rs.length ≤ 36 := by
  obtain ⟨nd, all⟩ := badY_iff.mp h
  have := nodup_len (m := (List.range 6).flatMap fun i : Nat => (List.range 6).map fun j : Nat => (((i : Nat) : Int), ((j : Nat) : Int))) nd fun r hr => by
    obtain ⟨a, b, c⟩ := all r hr
    refine List.mem_flatMap.mpr ⟨r.1.toNat, List.mem_range.mpr (by omega), List.mem_map.mpr ⟨r.2.toNat, List.mem_range.mpr (by omega), ?_⟩⟩
    rw [Int.toNat_of_nonneg (by omega), Int.toNat_of_nonneg a]
  refine Nat.le_trans this (Nat.le_of_ble_eq_true rfl)
theorem Ro.add_ok {d : Ro} {r : Int × Int} (h : d.Ok) (hw : wayB (some r.1) (some r.2) d.ds.length = true) (hn : d.rs.contains r = false) : (d.add r).Ok where
  z1 := h.z1
  z4 := h.z4
  zn := h.zn
  p1 := h.p1
  p6 := h.p6
  pn := h.pn
  w1 := h.w1
  w2 := h.w2
  h0 := h.h0
  h2 := h.h2
  bl := by
    show (d.rs ++ [r]).length ≤ 1000
    rw [List.length_append]
    have := ways_few h.bn h.p6
    show d.rs.length + 1 ≤ 1000
    omega
  bn := by
    obtain ⟨nd, all⟩ := badY_iff.mp h.bn
    refine badY_iff.mpr ⟨?_, fun q hq => ?_⟩
    · show (d.rs ++ [r]).Nodup
      rw [List.nodup_append]
      refine ⟨nd, by simp, fun a ha b hb e => ?_⟩
      rw [List.mem_singleton] at hb
      subst hb
      subst e
      rw [List.contains_iff_mem.mpr ha] at hn
      cases hn
    · rcases List.mem_append.mp hq with hq | hq
      · exact all q hq
      · rw [List.mem_singleton] at hq
        subst hq
        unfold wayB btwB at hw
        simp only [Bool.and_eq_true, decide_eq_true_eq] at hw
        show 0 ≤ q.2 ∧ q.2 < q.1 ∧ q.1 < (d.ds.length : Nat)
        omega
/-- can it be put to it -/
def addB (d : Ro) (r1 r2 : Option Int) : Bool := wayB r1 r2 d.ds.length && (match r1, r2 with
  | some i, some j => !d.rs.contains (i, j)
  | _, _ => false)
def spWiw (K : PySem.W.Frag) : Sp := fun vs H Q E => ∃ x y z : V, vs = [x, y, z] ∧ ((NoRo K H x ∧ Rro K E H) ∨
  ∃ (a fa : Addr) (ws ps bs : List V) (d : Ro) (r1 r2 : Option Int), x = .ref a ∧ Roll K H a ws ps bs fa d ∧ isI K H y r1 ∧ (∀ t, H t = none → isI K (upd H t (.tup [y, z])) y r1 ∧ isI K (upd H t (.tup [y, z])) z r2) ∧
    (numB r1 ps.length = false → Rnum K E H "phase") ∧ (numB r1 ps.length = true → addB d r1 r2 = false → Rnum K E H "earlier") ∧
    (∀ i j : Int, r1 = some i → r2 = some j → addB d r1 r2 = true → ∀ (c t : Addr) (H' : Hp), Same H H' → Roll K H' c ws ps (bs ++ [.ref t]) fa (d.add (i, j)) → Q (.ref c) H'))
section
variable {P : Program} {w : World} {K : PySem.W.Frag} {mg : Str → Option Value} {base : Heap} {f : Addr} {fd : FuncData}
abbrev nWiw : List Str := ["rollout", "phase", "earlier", "way"]
end
end K55

set_option maxRecDepth 100000
set_option maxHeartbeats 1000000
namespace K55
open PySem PySem.Spec PyProof.Rows L2 He VH RZ
/-! the Writer of a name and a list of steps -/
theorem pdefs {K : PySem.W.Frag} (fns : Fns K) : PDefs K := ⟨fns.f_is_word, fns.f_are_words, fns.f_is_statement, fns.f_checks_of, fns.f_has_word, fns.f_needs_read, fns.f_needs_input, fns.f_NoStatement_init, fns.f_is_read, fns.f_is_behind_read, fns.f_step_fits⟩
abbrev nLw : List Str := ["_law_title", "_law_steps_here"]
theorem same_ins {H : Hp} {x dx : Addr} {o o' : HO} (nx : H x = none) (nd : H dx = none) (ne : dx ≠ x) : Same H (upd (upd H dx o) x o') := fun b u h => by
  rw [upd_ne (ne_of_none h nx), upd_ne (ne_of_none h nd)]
  exact h
theorem same_but {H G H' : Hp} {x : Addr} (s : Same H G) (nx : H x = none) (b : But x G H') : Same H H' := fun c u h => b c u (ne_of_none h nx) (s _ _ h)
/-- what is right of a Writer that is to be made -/
def LwOk (K : PySem.W.Frag) (H : Hp) (z : Str) (xs : List V) (ds : List Sd) (Q : VK) (E : XK) : Prop := nameB z = true ∧ z.length ≤ 1000 ∧ SdL K H xs ds ∧ (1 ≤ xs.length ∧ xs.length ≤ 3) ∧
  (∀ i, bad ds = some i → Rw K E H "steps" (i : Nat)) ∧ (bad ds = none → ∀ (H' : Hp) (a : Addr), H a = none → Same H H' → WrAt K H' a z xs (needs ds) → Q (.ref a) H')
def spLw (K : PySem.W.Frag) : Sp := fun vs H Q E => ∃ (l : Addr) (z : Str) (xs : List V) (ds : List Sd), vs = [.str z, .ref l] ∧ SqL K H l xs ∧ LwOk K H z xs ds Q E
theorem mk_wr {K : PySem.W.Frag} {H : Hp} {z : Str} {xs : List V} {ds : List Sd} {Q : VK} {E : XK} (h : LwOk K H z xs ds Q E) : ∀ x dx, H x = none → H dx = none → dx ≠ x →
    spWr K (V.ref x :: .str z :: xs) (upd (upd H dx (.own x)) x (.ins (ga K "Writer") dx [])) (fun v H2 => v = .non ∧ Q (.ref x) H2) E := fun x dx nx nd ne => by
  obtain ⟨nz, lz, sd, ⟨l1, l2⟩, rz, k⟩ := h
  have S0 := same_ins (o := .own x) (o' := .ins (ga K "Writer") dx []) nx nd ne
  have big : 1000 < sizeLine := by decide
  refine ⟨[.ref x, .str z], xs, rfl, rfl, by omega, fun p np => ?_⟩
  have S1 := Same.new (o := .tup xs) np
  have S := S0.trans S1
  have ln := sd.len
  have er : refuse (some z) ds = (bad ds).map fun (k : Nat) => (("steps" : Str), (k : Int)) := by
    unfold refuse
    rw [if_neg (by simp), if_neg (by omega)]
    cases bad ds <;> rfl
  refine ⟨x, dx, p, .str z, some z, xs, ds, rfl, S1 _ _ upd_same, upd_same, .inl ⟨z, rfl, lz, by rw [nz]; rfl⟩, sd.same S, by omega, fun u i e => ?_, fun z' e0 er' H' bt at_ => ⟨rfl, ?_⟩⟩
  · rw [er] at e
    obtain ⟨m, hm, e⟩ := Option.map_eq_some_iff.mp e
    cases e
    exact (rz m hm).same S
  · rw [er] at er'
    obtain rfl := Option.some.inj e0
    exact k (Option.map_eq_none_iff.mp er') H' x nx (same_but S nx bt) at_
theorem three {xs : List V} (l1 : 1 ≤ xs.length) (l2 : xs.length ≤ 3) : (∃ x0, xs = [x0]) ∨ (∃ x0 x1, xs = [x0, x1]) ∨ (∃ x0 x1 x2, xs = [x0, x1, x2]) := by
  rcases xs with _ | ⟨x0, _ | ⟨x1, _ | ⟨x2, _ | ⟨x3, r⟩⟩⟩⟩
  · exact absurd l1 (by simp)
  · exact .inl ⟨_, rfl⟩
  · exact .inr (.inl ⟨_, _, rfl⟩)
  · exact .inr (.inr ⟨_, _, _, rfl⟩)
  · simp only [List.length_cons] at l2
    omega
section
variable {P : Program} {w : World} {K : PySem.W.Frag} {mg : Str → Option Value} {base : Heap} {f : Addr} {fd : FuncData}
end
end K55

set_option maxRecDepth 100000
set_option maxHeartbeats 4000000
namespace K55
open PySem PySem.Spec PyProof.Rows L2 He VH
abbrev sDraw : Stmt := top 106
abbrev nDraw : List Str := ["_law_well_here", "_law_much", "_law_digit", "_law_blend"]
section
variable {P : Program} {w : World} {K : PySem.W.Frag} {mg : Str → Option Value} {base : Heap} {f : Addr} {fd : FuncData}
theorem scDraw : FnScope nDraw ["_law_well_here", "_law_much"] (defScope sDraw) := ⟨rfl, rfl, rfl, by decide +kernel, rfl, by decide +kernel, by decide +kernel⟩
theorem ok_draw (F : FnP K "_law_draw" sDraw f fd) (gI : mg "int" = none) : FnOk P w K mg base CX0 1 f fd ["_law_well_here", "_law_much"] spDraw := by
  refine F.ok scDraw (fun vs H Q E h => ?_) (fun cdv A outer s H vs Q E hr h => ?_)
  · obtain ⟨a, m, rfl, _⟩ := h
    rfl
  refine ⟨_, PSs.nox (pss_cons (ps_if (pt_cmpR op_gt (pe_ix ix_list (pv 0) pe_int (fun _ _ => rfl)) pe_int (nomark _))
      (pss_cons (ps_set (i := 2) scDraw.nd rfl (Or.inl rfl) (pe_op op_modN (pe_callTy call_int1 (by rfl) gI boot_int (pa_cons (pe_ix ix_list (pv 0) pe_int (fun _ _ => rfl)) pa_nil)) (pv 1)))
      (pss_cons (ps_asg (pe_op op_fdivN (pe_ix ix_list (pv 0) pe_int (fun _ _ => rfl)) (pv 1)) (pg_sub (pv 0) pe_int set_list))
      (pss_one (ps_ret (pv 2))))) pss_nil)
      (pss_cons (ps_asg (pe_op op_add (pe_ix ix_list (pv 0) pe_int (fun _ _ => rfl)) pe_int) (pg_sub (pv 0) pe_int set_list))
      (pss_cons (ps_set (i := 3) scDraw.nd rfl (Or.inl rfl) (pe_op op_modN (pe_callTy call_int1 (by rfl) gI boot_int (pa_cons (pe_op op_mul (pe_op op_add (pe_op op_add (pe_ix ix_list (pv 0) pe_int (fun _ _ => rfl)) (pe_op op_mul pe_int (pe_ix ix_list (pv 0) pe_int (fun _ _ => rfl)))) pe_int) pe_int) pa_nil)) pe_int))
      (pss_cons (ps_set (i := 3) scDraw.nd rfl (Or.inl rfl) (pe_op op_modN (pe_callTy call_int1 (by rfl) gI boot_int (pa_cons (pe_op op_mul (pv 3) (pe_op op_add (pe_op op_fdivN (pv 3) pe_int) pe_int)) pa_nil)) pe_int))
      (pss_one (ps_ret (pe_op op_modN (pe_callTy call_int1 (by rfl) gI boot_int (pa_cons (pe_op op_modN (pe_callTy call_int1 (by rfl) gI boot_int (pa_cons (pe_op op_mul (pv 3) (pe_op op_add (pe_op op_fdivN (pv 3) pe_int) pe_int)) pa_nil)) pe_int) pa_nil)) (pv 1)))))))), ?_⟩
  · obtain ⟨a, m, rfl, ⟨c, b, n, ha⟩, m0, m1, k⟩ := h
    have iL : ∀ {H' : Hp} {l : List V}, H' a = some (.lst l) → SqL K H' a l := fun h => SqL.of h
    refine ⟨_, rfl, a, _, 0, _, rfl, rfl, iL ha, by rfl, _, _, rfl, rfl, _, rfl, ?_⟩
    refine ite2 (fun _ => ?_) (fun _ => ?_)
    · refine ⟨_, rfl, a, _, 0, _, rfl, rfl, iL ha, by rfl, .inl ⟨_, rfl, ?_⟩⟩
      refine ⟨_, rfl, _, _, rfl, rfl, by omega, ?_⟩
      refine ⟨_, rfl, a, _, 0, _, rfl, rfl, iL ha, by rfl, _, rfl, _, _, rfl, rfl, ⟨by omega, by omega⟩, ?_⟩
      refine ⟨_, rfl, a, _, 0, _, rfl, rfl, ha, by rfl, _, rfl, ?_⟩
      refine k _ _ ?_ ?_ ⟨_, _, _, upd_same⟩ But.upd
      · exact Int.fmod_nonneg_of_pos _ m0
      · exact Int.fmod_lt_of_pos _ m0
    · refine ⟨_, rfl, a, _, 2, _, rfl, rfl, iL ha, by rfl, _, _, rfl, rfl, ?_⟩
      refine ⟨_, rfl, a, _, 2, _, rfl, rfl, ha, by rfl, ?_⟩
      have h2 : upd H a (.lst ([V.int c, V.int b, V.int n].set 2 (V.int (n + 1)))) a = some (.lst [V.int c, V.int b, V.int (n + 1)]) := upd_same
      refine ⟨_, rfl, a, _, 1, _, rfl, rfl, iL h2, by rfl, _, rfl, a, _, 2, _, rfl, rfl, iL h2, by rfl, 40087, _, rfl, rfl, .inl (by decide), ?_⟩
      refine ⟨_, _, rfl, rfl, _, _, rfl, rfl, _, 48271, rfl, rfl, .inr (by decide), .inl ⟨_, rfl, ?_⟩⟩
      refine ⟨_, 2147483647, rfl, rfl, (show (2147483647 : Int) ≠ 0 by decide), ?_⟩
      have l1 := Int.fmod_nonneg_of_pos ((b + 40087 * (n + 1) + 11) * 48271) (show (0 : Int) < 2147483647 by decide)
      have u1 := Int.fmod_lt_of_pos ((b + 40087 * (n + 1) + 11) * 48271) (show (0 : Int) < 2147483647 by decide)
      refine ⟨_, rfl, _, rfl, _, 1021, rfl, rfl, ⟨by decide, by decide⟩, _, 69691, rfl, rfl, _, _, rfl, rfl, .inl (by omega), .inl ⟨_, rfl, ?_⟩⟩
      refine ⟨_, 2147483587, rfl, rfl, (show (2147483587 : Int) ≠ 0 by decide), ?_⟩
      obtain ⟨v2, e2, l2, u2⟩ : ∃ v2 : Int, v2 = ((((b + 40087 * (n + 1) + 11) * 48271).fmod 2147483647) * ((((b + 40087 * (n + 1) + 11) * 48271).fmod 2147483647).fdiv 1021 + 69691)).fmod 2147483587 ∧ 0 ≤ v2 ∧ v2 < 2147483587 :=
        ⟨_, rfl, Int.fmod_nonneg_of_pos _ (by decide), Int.fmod_lt_of_pos _ (by decide)⟩
      have h3 : ∀ {i : Nat}, i = 3 → (List.set (List.set (start nDraw [V.ref a, V.int m]) 3 (some (V.int (((b + 40087 * (n + 1) + 11) * 48271).fmod 2147483647)))) 3 (some (V.int v2)))[i]? = some (some (V.int v2)) := fun e => by subst e; rfl
      subst e2
      refine ⟨_, h3 rfl, _, h3 rfl, _, 2017, rfl, rfl, ⟨by decide, by decide⟩, _, 40699, rfl, rfl, _, _, rfl, rfl, .inl ⟨by omega, by omega⟩, .inl ⟨_, rfl, ?_⟩⟩
      refine ⟨_, 2147483399, rfl, rfl, (show (2147483399 : Int) ≠ 0 by decide), .inl ⟨_, rfl, ?_⟩⟩
      refine ⟨_, rfl, _, _, rfl, rfl, (show m ≠ 0 by omega), ?_⟩
      exact k _ _ (Int.fmod_nonneg_of_pos _ m0) (Int.fmod_lt_of_pos _ m0) ⟨_, _, _, h2⟩ But.upd
end
end K55

set_option maxRecDepth 100000
set_option maxHeartbeats 4000000
namespace K55
open PySem PySem.Spec PyProof.Rows L2 He VH
abbrev sWell : Stmt := top 107
abbrev sOne : Stmt := top 108
theorem rep_ints (n : Nat) : (List.replicate n [V.int 0]).flatten = (List.replicate n (0 : Int)).map V.int := by
  induction n with
  | zero => rfl
  | succ n ih =>
    rw [List.replicate_succ, List.flatten_cons, ih, List.replicate_succ, List.map_cons]
    rfl
theorem cell_is {ns : List Int} {k : Nat} {m : Int} (hm : m = (k : Int) + 1) : ∃ c : Int, atI (ns.map V.int ++ (List.replicate m.toNat [V.int 0]).flatten) (k : Int) = some (V.int c) := by
  have e : m.toNat = k + 1 := by omega
  rw [e, rep_ints, ← List.map_append]
  have lt : k < (ns ++ List.replicate (k + 1) (0 : Int)).length := by
    rw [List.length_append, List.length_replicate]
    omega
  refine ⟨(ns ++ List.replicate (k + 1) (0 : Int))[k], atI_nat ?_⟩
  rw [List.getElem?_map, List.getElem?_eq_getElem lt]
  rfl
section
variable {P : Program} {w : World} {K : PySem.W.Frag} {mg : Str → Option Value} {base : Heap} {f fD : Addr} {fd fdD : FuncData}
theorem scWell : FnScope ["_law_script", "_law_at", "_law_cell"] ["_law_script", "_law_at"] (defScope sWell) := ⟨rfl, rfl, rfl, by decide +kernel, rfl, by decide +kernel, by decide +kernel⟩
theorem ok_well (F : FnP K "_law_well" sWell f fd) (gI : mg "int" = none) : FnOk P w K mg base CX0 1 f fd ["_law_script", "_law_at"] (spWell K) := by
  refine F.ok scWell (fun vs H Q E h => ?_) (fun cdv A outer s H vs Q E hr h => ?_)
  · obtain ⟨a, ns, k, rfl, _⟩ := h
    rfl
  refine ⟨_, PSs.nox (pss_cons (ps_set (i := 2) scWell.nd rfl (Or.inl rfl) (pe_ix ix_list (pe_op op_catR (pv 0) (pe_op op_rep (pe_lst (pa_cons pe_int pa_nil)) (pe_op op_add (pv 1) pe_int))) (pv 1) (fun _ _ => rfl)))
    (pss_one (ps_ret (pe_lst (pa_cons (pe_op op_mul (pv 2) (pe_callTy call_int1 (by rfl) gI boot_int (pa_cons (pe_cmpR op_ge (pv 2) (pe_op op_pow pe_int pe_int) (nomark _)) pa_nil)))
      (pa_cons (pe_op op_add (pe_op op_modN (pe_callTy call_int1 (by rfl) gI boot_int (pa_cons (pv 2) pa_nil)) pe_int) (pe_op op_mul pe_int (pv 1)))
      (pa_cons pe_int pa_nil))))))), ?_⟩
  obtain ⟨a, ns, k, rfl, ha, l1, l2, kk⟩ := h
  refine ⟨_, rfl, by decide, fun p hp => ?_⟩
  refine ⟨_, rfl, _, 1, rfl, rfl, p, _, _, rfl, rfl, upd_same, by omega, by omega, ?_, fun q hq => ?_⟩
  · show 1 * ((k : Int) + 1).toNat ≤ sizeLine
    rw [sizeLine_eq]
    omega
  obtain ⟨c, hc⟩ := cell_is (ns := ns) (k := k) (m := (k : Int) + 1) rfl
  have len2 : (ns.map V.int).length + (List.replicate ((k : Int) + 1).toNat [V.int 0]).flatten.length ≤ sizeLine := by
    rw [rep_ints, List.length_map, List.length_map, List.length_replicate, sizeLine_eq]
    omega
  refine ⟨a, q, _, _, rfl, rfl, ((Same.new hp).trans (Same.new hq)).seq ha, SqL.of upd_same, len2, fun r hr => ?_⟩
  refine ⟨_, rfl, r, _, k, _, rfl, rfl, SqL.of upd_same, hc, ?_⟩
  refine ⟨_, rfl, _, rfl, _, _, rfl, rfl, ⟨by decide, by decide, by decide⟩, _, _, rfl, rfl, .inr ⟨_, rfl, ?_⟩⟩
  refine ⟨_, _, rfl, rfl, .inr ?_, ?_⟩
  · split <;> decide
  refine ⟨_, rfl, .inl ⟨_, rfl, _, _, rfl, rfl, (show (2147483647 : Int) ≠ 0 by decide), ?_⟩⟩
  refine ⟨_, rfl, 7919, _, rfl, rfl, .inl (by decide), _, _, rfl, rfl, ?_⟩
  refine ⟨by show 3 ≤ sizeLine; decide, fun z hz => ?_⟩
  refine kk _ _ ?_ ⟨_, _, _, upd_same⟩ ((((Same.new hp).trans (Same.new hq)).trans (Same.new hr)).trans (Same.new hz))
  exact (((Same.new hp).trans (Same.new hq)).trans (Same.new hr)).free hz
theorem scOne : FnScope ["_law_well_here", "_law_some"] ["_law_well_here", "_law_some"] (defScope sOne) := ⟨rfl, rfl, rfl, by decide +kernel, rfl, by decide +kernel, by decide +kernel⟩
theorem ok_one (F : FnP K "_law_one" sOne f fd) (FD : FnP K "_law_draw" sDraw fD fdD) (gD : mg "_law_draw" = some (.ref fD)) (gI : mg "int" = none) (gL : mg "len" = none) :
    FnOk P w K mg base CX0 2 f fd ["_law_well_here", "_law_some"] (spOne K) := by
  have GD : FnOk P w K mg base CX0 1 fD fdD ["_law_well_here", "_law_much"] spDraw := ok_draw FD gI
  have bD : Binds K fdD ["_law_well_here", "_law_much"] [] := FD.bindsN fun _ _ _ _ _ _ us hl => match us, hl with | [_, _], _ => rfl
  refine F.ok scOne (fun vs H Q E h => ?_) (fun cdv A outer s H vs Q E hr h => ?_)
  · obtain ⟨a, l, xs, rfl, _⟩ := h
    rfl
  refine ⟨_, PSs.nox (pss_one (ps_ret (pe_ix ix_list (pv 1) (pe_call GD hr (by rfl) gD FD.kp bD .nil pass0 (pa_cons (pv 0) (pa_cons (pe_callB call_len_seq (by rfl) gL boot_len (pa_cons (pv 1) pa_nil)) pa_nil))) (fun _ _ => rfl)))), ?_⟩
  obtain ⟨a, l, xs, rfl, wl, ne, hl, x0, x1, k⟩ := h
  refine ⟨_, rfl, _, rfl, _, rfl, l, xs, rfl, .inl (SqL.of hl), ?_⟩
  refine ⟨a, (xs.length : Int), rfl, wl, by omega, by omega, fun H' d d0 d1 w2 bt => ?_⟩
  obtain ⟨x, hx, ex⟩ := atI_some (xs := xs) d0 d1
  exact ⟨l, xs, d, x, rfl, rfl, SqL.of (bt _ _ ne hl), ex, k H' x hx w2 bt⟩
end
end K55

set_option maxRecDepth 100000
set_option maxHeartbeats 4000000
namespace K55
open PySem PySem.Spec PyProof.Rows L2 He VH RZ
/-! drawn parts of lists of words -/
theorem _root_.L2.Well.same {a : Addr} {H H' : Hp} (w : Well H a) (s : Same H H') : Well H' a := by
  obtain ⟨c, b, n, w⟩ := w
  exact ⟨c, b, n, s _ _ w⟩
theorem _root_.L2.Well.new {a t : Addr} {H : Hp} (w : Well H a) (n : H t = none) : t ≠ a := fun z => by
  obtain ⟨_, _, _, w⟩ := w
  rw [z, w] at n
  cases n
theorem sub_wds {cs ws : List Str} (h : cs.Sublist ws) (nd : ws.Nodup) : wdsOk cs ws = true := by
  unfold wdsOk
  have key : ws.filter cs.contains = cs := by
    induction h with
    | slnil => rfl
    | cons a h ih =>
      rename_i l1 l2
      obtain ⟨na, nd⟩ := List.nodup_cons.mp nd
      have : l1.contains a = false := by
        rw [← Bool.not_eq_true, List.contains_iff_mem]
        exact fun m => na (h.subset m)
      rw [List.filter_cons, this]
      exact ih nd
    | cons_cons a h ih =>
      rename_i l1 l2
      obtain ⟨na, nd⟩ := List.nodup_cons.mp nd
      rw [List.filter_cons, show (a :: l1).contains a = true by simp]
      rw [if_pos rfl]
      congr 1
      refine Eq.trans (List.filter_congr fun x hx => ?_) (ih nd)
      have ne : x ≠ a := fun e => na (e ▸ hx)
      rw [List.contains_cons, beq_eq_false_iff_ne.mpr ne, Bool.false_or]
  rw [key]
  rw [Bool.and_eq_true]
  refine ⟨List.all_eq_true.mpr fun x hx => List.contains_iff_mem.mpr (h.subset hx), decide_eq_true rfl⟩
abbrev FnDrw (K : PySem.W.Frag) (fd : FuncData) : Prop := FnP K "_law_draw" sDraw (ga K "_law_draw") fd
abbrev FnOne (K : PySem.W.Frag) (fd : FuncData) : Prop := FnP K "_law_one" sOne (ga K "_law_one") fd
theorem bDrw {K : PySem.W.Frag} {fd : FuncData} (F : FnDrw K fd) : Binds K fd ["_law_well_here", "_law_much"] [] := FunD.bindsN F fun _ _ _ _ _ _ us hl => match us, hl with | [_, _], _ => rfl
theorem bOne {K : PySem.W.Frag} {fd : FuncData} (F : FnOne K fd) : Binds K fd ["_law_well_here", "_law_some"] [] := FunD.bindsN F fun _ _ _ _ _ _ us hl => match us, hl with | [_, _], _ => rfl
def spPrt (K : PySem.W.Frag) : Sp := fun vs H Q _ => ∃ (a l : Addr) (ws : List Str), vs = [.ref a, .ref l] ∧ Well H a ∧ H l = some (.lst (ws.map V.str)) ∧ l ≠ a ∧ ws.length ≤ 1000 ∧
  ∀ (cs : List Str) (H' : Hp) (p : Addr), cs.Sublist ws → Well H' a → But a H H' → SqT K H' p (cs.map V.str) → Q (.ref p) H'
section
variable {P : Program} {w : World} {K : PySem.W.Frag} {mg : Str → Option Value} {base : Heap} {f : Addr} {fd fdD : FuncData}
abbrev nPrt : List Str := ["_law_well_here", "_law_words", "_law_word"]
theorem But.sub {a D : Addr} {H G G2 : Hp} {u : HO} (b : But a H G) (nD : H D = none) (c : But a G G2) : But a H (upd G2 D u) := fun x o n e => by
  rw [upd_ne (ne_of_none e nD)]
  exact c x o n (b x o n e)
/-- a word is drawn, or not -/
theorem word_step {H G : Hp} {a D : Addr} {ws cs : List Str} {n : Nat} {u : Str} {G2 : Hp} (nD : H D = none) (na : D ≠ a) (lw : ws.length ≤ 1000) (hu : ws[n]? = some u) (bG : But a H G) (hD : G D = some (.lst (cs.map V.str))) (sub : cs.Sublist (ws.take n)) (w2 : Well G2 a) (b2 : But a G G2) :
    (∃ acc, G2 D = some (.lst acc) ∧ acc.length < sizeLine ∧ Well (upd G2 D (.lst (acc ++ [.str u]))) a ∧ But a H (upd G2 D (.lst (acc ++ [.str u]))) ∧ ∃ cs' : List Str, upd G2 D (.lst (acc ++ [.str u])) D = some (.lst (cs'.map V.str)) ∧ cs'.Sublist (ws.take (n + 1))) ∧
    (Well G2 a ∧ But a H G2 ∧ ∃ cs' : List Str, G2 D = some (.lst (cs'.map V.str)) ∧ cs'.Sublist (ws.take (n + 1))) := by
  have big : 1000 < sizeLine := by decide
  have tk : ws.take (n + 1) = ws.take n ++ [u] := by rw [List.take_succ, hu]; rfl
  have hD2 := b2 _ _ na hD
  refine ⟨⟨_, hD2, ?_, ?_, But.sub bG nD b2, cs ++ [u], ?_, ?_⟩, w2, bG.trans b2, cs, hD2, ?_⟩
  · have := sub.length_le
    rw [List.length_take] at this
    rw [List.length_map]
    omega
  · obtain ⟨x, y, z, e⟩ := w2
    exact ⟨x, y, z, by rw [upd_ne (Ne.symm na)]; exact e⟩
  · rw [upd_same, List.map_append]
    rfl
  · rw [tk]
    exact sub.append (List.Sublist.refl _)
  · rw [tk]
    exact sub.trans (List.sublist_append_left _ _)
end
end K55

set_option maxRecDepth 100000
set_option maxHeartbeats 4000000
namespace K55
open PySem PySem.Spec PyProof.Rows L2 He VH RZ
/-! drawn checks -/
/-- checks that may stand there -/
abbrev ckW (b : Bool) : List Str := if b then ["missing", "same old", "same new"] else ["missing"]
def spCks (K : PySem.W.Frag) : Sp := fun vs H Q _ => ∃ (a : Addr) (b : Bool), vs = [.ref a, .bl b] ∧ Well H a ∧
  ∀ (cs : List Str) (H' : Hp) (p : Addr), cs.Sublist (ckW b) → Well H' a → But a H H' → H' p = some (.tup (cs.map V.str)) → Q (.ref p) H'
/-- tuple(a list): a new tuple -/
def rTupN (K : PySem.W.Frag) : List V → Hp → VK → Prop := fun xs H Q => ∃ (a : Addr) (ys : List V), xs = [.ref a] ∧ SqL K H a ys ∧ ∀ t, H t = none → Q (.ref t) (upd H t (.tup ys))
theorem call_tupN {X : Cx} : CallR X (.type "tuple") (rTupN X.K) := by
  intro pins s σ H xs us Q I r h
  obtain ⟨a, ys, rfl, hv, k⟩ := h
  exact call_tuple_of pins s σ H _ us Q I r ⟨a, ys, rfl, .inl ⟨hv, k⟩⟩
section
variable {P : Program} {w : World} {K : PySem.W.Frag} {mg : Str → Option Value} {base : Heap} {f : Addr} {fd fdD : FuncData}
abbrev nCks : List Str := ["_law_well_here", "_law_behind", "_law_words", "_law_word"]
end
end K55

set_option maxRecDepth 100000
set_option maxHeartbeats 4000000
namespace K55
open PySem PySem.Spec PyProof.Rows L2 He VH RZ
/-! a drawn step -/
/-- a statement that may stand there -/
def stB (b : Bool) (s : Stp) : Bool := s.ok && (b || !hasW s rdW)
def spStp (K : PySem.W.Frag) : Sp := fun vs H Q _ => ∃ (a : Addr) (b : Bool), vs = [.ref a, .bl b] ∧ Well H a ∧
  ∀ (s : Stp) (H' : Hp) (p : Addr), stB b s = true → Well H' a → But a H H' → StAt H' p s → Q (.ref p) H'
/-- those of ckW -/
def subs (b : Bool) : List (List Str) := if b then Ls 3 else [[], ["missing"]]
theorem subs_mem {b : Bool} {cs : List Str} (h : cs.Sublist (ckW b)) : cs ∈ subs b := by
  cases b with
  | true => exact cs_all (sub_wds h (by decide))
  | false =>
    have h : cs.Sublist ["missing"] := h
    have q : ∀ r : List Str, r.Sublist [] → r = [] := fun r h => List.sublist_nil.mp h
    rcases List.sublist_cons_iff.mp h with h1 | ⟨r, e, h2⟩
    · rw [q _ h1]
      exact List.mem_cons_self ..
    · rw [e, q _ h2]
      exact List.mem_cons_of_mem _ (List.mem_cons_self ..)
abbrev oldW (b : Bool) : List Str := if b then ["input", "keep", "input", "read"] else ["input", "keep", "input"]
abbrev newW (b : Bool) : List Str := if b then ["keep", "now", "none", "read", "copy"] else ["keep", "now", "none"]
theorem st_set : ∀ b : Bool, ∀ u ∈ oldW b, ∀ v ∈ newW b, ∀ cs ∈ subs b, stB b ⟨"set", [u, v], cs⟩ = true := by decide +kernel
theorem st_del : ∀ b : Bool, ∀ cs ∈ subs b, stB b ⟨"delete", [], cs⟩ = true := by decide +kernel
theorem st_put : ∀ u ∈ (["none", "now", "read", "copy"] : List Str), ∀ cs ∈ subs true, stB true ⟨"put", [u], cs⟩ = true := by decide +kernel
theorem st_ins : ∀ b : Bool, ∀ u ∈ (["none", "now"] : List Str), stB b ⟨"insert", [u], []⟩ = true := by decide +kernel
section
variable {P : Program} {w : World} {K : PySem.W.Frag} {mg : Str → Option Value} {base : Heap} {f : Addr} {fd fdD fdO fdC : FuncData}
abbrev nStp : List Str := ["_law_well_here", "_law_behind", "_law_way", "_law_old", "_law_fresh"]
end
end K55

set_option maxRecDepth 100000
set_option maxHeartbeats 4000000
namespace K55
open PySem PySem.Spec PyProof.Rows L2 He VH RZ
/-! drawn steps -/
/-- tuples stand, whatever becomes of a well -/
theorem but_tup {a b : Addr} {H H' : Hp} {xs : List V} (h : But a H H') (w : Well H a) (e : H b = some (.tup xs)) : H' b = some (.tup xs) := by
  refine h b _ (fun z => ?_) e
  obtain ⟨_, _, _, w⟩ := w
  rw [z, w] at e
  cases e
theorem but_st {a p : Addr} {H H' : Hp} {s : Stp} (h : But a H H') (w : Well H a) (e : StAt H p s) : StAt H' p s := e.same fun _ _ q => but_tup h w q
theorem rd_at {K : PySem.W.Frag} {H : Hp} {p : Addr} (h : H p = some (.tup [.str "read"])) : SdAt K H (.ref p) .read := .tup (SqT.of h) (.cons .str .nil)
theorem st_at {K : PySem.W.Frag} {H : Hp} {p : Addr} {s : Stp} {b : Bool} (h : StAt H p s) (o : stB b s = true) : SdAt K H (.ref p) (.st s) := ⟨p, rfl, h, by
  unfold stB at o
  rw [Bool.and_eq_true] at o
  exact o.1⟩
theorem ok_false {s : Stp} (o : stB false s = true) : hasW s rdW = false := by
  unfold stB at o
  rw [Bool.and_eq_true, Bool.false_or] at o
  simpa using o.2
theorem bad_of {ds : List Sd} (h : ∀ k, k < ds.length → fits ds k = true) : bad ds = none := by
  unfold bad
  rw [find_none]
  exact h
theorem bad1 {s : Stp} (o : stB false s = true) : bad [.st s] = none := bad_of fun k l => match k, l with
  | 0, _ => by
    show ([] : List Sd).any Sd.isR || !hasW s rdW
    rw [ok_false o]
    rfl
theorem bad3 {s t : Stp} (o : stB false s = true) : bad [.st s, .read, .st t] = none := bad_of fun k l => match k, l with
  | 0, _ => by
    show ([] : List Sd).any Sd.isR || !hasW s rdW
    rw [ok_false o]
    rfl
  | 1, _ => rfl
  | 2, _ => rfl
theorem bad2 {s : Stp} : bad [.read, .st s] = none := bad_of fun k l => match k, l with
  | 0, _ => rfl
  | 1, _ => rfl
theorem bad2' {s t : Stp} : bad [.read, .st s, .st t] = none := bad_of fun k l => match k, l with
  | 0, _ => rfl
  | 1, _ => rfl
  | 2, _ => rfl
def spSts (K : PySem.W.Frag) : Sp := fun vs H Q _ => ∃ a : Addr, vs = [.ref a] ∧ Well H a ∧
  ∀ (ds : List Sd) (xs : List V) (H' : Hp) (l : Addr), Well H' a → But a H H' → H l = none → H' l = some (.lst xs) → SdL K H' xs ds → 1 ≤ xs.length → xs.length ≤ 3 → bad ds = none → Q (.ref l) H'
section
variable {P : Program} {w : World} {K : PySem.W.Frag} {mg : Str → Option Value} {base : Heap} {f : Addr} {fd fdD fdO fdC fdS : FuncData}
abbrev nSts : List Str := ["_law_well_here", "_law_way"]
end
end K55

set_option maxRecDepth 100000
set_option maxHeartbeats 4000000
namespace K55
open PySem PySem.Spec PyProof.Rows L2 He VH RZ
/-! a drawn Fill -/
def spFil (K : PySem.W.Frag) : Sp := fun vs H Q _ => ∃ a : Addr, vs = [.ref a] ∧ Well H a ∧
  ∀ (c : Addr) (H' : Hp), Well H' a → But a H H' → FlK K H' c → Q (.ref c) H'
theorem fl_put : ∀ u ∈ (["now", "read", "none", "copy"] : List Str), ∀ cs ∈ subs true, (Stp.ok ⟨"put", [u], cs⟩ && Stp.fill ⟨"put", [u], cs⟩) = true := by decide +kernel
theorem fl_set : ∀ u ∈ (["keep", "keep", "read"] : List Str), ∀ v ∈ (["now", "read", "read", "now", "copy", "none", "keep"] : List Str), ∀ cs ∈ subs true, (Stp.ok ⟨"set", [u, v], cs⟩ && Stp.fill ⟨"set", [u, v], cs⟩) = true := by decide +kernel
theorem one_of {K : PySem.W.Frag} {a : Addr} {G : Hp} {ws : List Str} {R : VK} (wG : Well G a) (h : ws ≠ [] ∧ ws.length ≤ 100) (kk : ∀ (G' : Hp) (u : Str), u ∈ ws → Well G' a → But a G G' → R (.str u) G') (l : Addr) (nl : G l = none) : spOne K [.ref a, .ref l] (upd G l (.lst (ws.map V.str))) R E0 := by
  obtain ⟨ne, lw⟩ := h
  have S := Same.new (o := .lst (ws.map V.str)) nl
  refine ⟨a, l, _, rfl, wG.same S, wG.new nl, upd_same, ?_, ?_, fun G' x hx w' b' => ?_⟩
  · rw [List.length_map]
    exact List.length_pos_iff.mpr ne
  · rw [List.length_map]
    omega
  · obtain ⟨u, hu, rfl⟩ := List.mem_map.mp hx
    exact kk G' u hu w' ((But.of S).trans b')
theorem fl_two {s : Stp} (h : (s.ok && s.fill) = true) : s.ok = true ∧ s.fill = true := by
  rwa [Bool.and_eq_true] at h
section
variable {P : Program} {w : World} {K : PySem.W.Frag} {mg : Str → Option Value} {base : Heap} {f : Addr} {fd fdD fdO fdC fdI : FuncData}
abbrev nFil : List Str := ["_law_well_here", "_law_step_here", "_law_fresh", "_law_order", "_law_flags", "_law_turn"]
end
end K55

set_option maxRecDepth 100000
set_option maxHeartbeats 4000000
namespace K55
open PySem PySem.Spec PyProof.Rows L2 He VH RZ
/-! drawn names, no two alike -/
theorem name_of {z : Str} {cs : List Nat} (e : z.cps.toList = cs) (l1 : 1 ≤ cs.length) (l2 : cs.length ≤ 12) (a : ∀ c ∈ cs, c ∈ LET.cps.toList) : nameB z = true := by
  have ln : z.length = cs.length := by
    rw [← e, Array.length_toList]
    rfl
  unfold nameB
  rw [ln, e, decide_eq_true (by omega), decide_eq_true (by omega), List.all_eq_true.mpr fun c hc => decide_eq_true (a c hc)]
  rfl
theorem mem_sgns {x : V} {z : Str} (h : x ∈ (sgns z).map V.str) : ∃ c, c ∈ z.cps.toList ∧ x = .str (sgn c) := by
  obtain ⟨y, hy, rfl⟩ := List.mem_map.mp h
  obtain ⟨c, hc, rfl⟩ := List.mem_map.mp hy
  exact ⟨c, hc, rfl⟩
theorem let_nd : LET.cps.toList.Nodup ∧ LET.cps.toList.length = 26 := by decide +kernel
/-- the k-th name from b on -/
def Nth (b : Int) (k : Nat) (z : Str) : Prop := nameB z = true ∧ ∃ c, z.cps.toList.head? = some c ∧ atI LET.cps.toList ((b + 11 * k).fmod 26) = some c
theorem nth_nd {b : Int} {zs : List Str} (b0 : 0 ≤ b) (l : zs.length ≤ 20) (h : ∀ (k : Nat) (z : Str), zs[k]? = some z → Nth b k z) : zs.Nodup := by
  unfold List.Nodup
  rw [List.pairwise_iff_getElem]
  intro i j hi hj lt e
  obtain ⟨_, c, e1, a1⟩ := h i _ (List.getElem?_eq_getElem hi)
  obtain ⟨_, c', e2, a2⟩ := h j _ (List.getElem?_eq_getElem hj)
  rw [← e, e1] at e2
  cases e2
  rw [Int.fmod_eq_emod_of_nonneg _ (by decide)] at a1 a2
  obtain ⟨nd, l26⟩ := let_nd
  have r1 : 0 ≤ (b + 11 * (i : Int)) % 26 ∧ (b + 11 * (i : Int)) % 26 < 26 := by omega
  have r2 : 0 ≤ (b + 11 * (j : Int)) % 26 ∧ (b + 11 * (j : Int)) % 26 < 26 := by omega
  obtain ⟨m, em⟩ : ∃ m : Nat, (b + 11 * (i : Int)) % 26 = (m : Int) := ⟨_, (Int.toNat_of_nonneg r1.1).symm⟩
  obtain ⟨n, en⟩ : ∃ n : Nat, (b + 11 * (j : Int)) % 26 = (n : Int) := ⟨_, (Int.toNat_of_nonneg r2.1).symm⟩
  rw [em] at a1
  rw [en] at a2
  have lm : m < LET.cps.toList.length := by omega
  have ln : n < LET.cps.toList.length := by omega
  rw [atI_nat (List.getElem?_eq_getElem lm)] at a1
  rw [atI_nat (List.getElem?_eq_getElem ln)] at a2
  have : m ≠ n := by omega
  have q := (List.pairwise_iff_getElem.mp (show LET.cps.toList.Pairwise (· ≠ ·) from nd))
  have ee := (Option.some.inj a1).trans (Option.some.inj a2).symm
  rcases Nat.lt_or_gt_of_ne this with l | l
  · exact q m n lm ln l ee
  · exact q n m ln lm l ee.symm
def spTit : Sp := fun vs H Q _ => ∃ (a : Addr) (n : Nat), vs = [.ref a, .int n] ∧ Well H a ∧ n ≤ 20 ∧
  ∀ (zs : List Str) (H' : Hp) (l : Addr), Well H' a → But a H H' → H l = none → H' l = some (.lst (zs.map V.str)) → zs.length = n → zs.Nodup → (∀ z ∈ zs, nameB z = true) → Q (.ref l) H'
section
variable {P : Program} {w : World} {K : PySem.W.Frag} {mg : Str → Option Value} {base : Heap} {f : Addr} {fd fdD fdO : FuncData}
abbrev nTit : List Str := ["_law_well_here", "_law_many", "_law_letters", "_law_begin", "_law_found", "_law_k", "_law_rest", "_law_turn"]
end
end K55

set_option maxRecDepth 100000
set_option maxHeartbeats 4000000
namespace K55
open PySem PySem.Spec PyProof.Rows L2 He VH RZ
/-! drawn Phases -/
theorem sq_but {K : PySem.W.Frag} {a b : Addr} {H H' : Hp} {xs : List V} (h : SqT K H b xs) (w : Well H a) (e : But a H H') : SqT K H' b xs := by
  obtain ⟨x, y, z, w⟩ := w
  exact h.off (fun o ys => ⟨by rw [w]; simp, by rw [w]; simp⟩) e
theorem ph_but {K : PySem.W.Frag} {a p : Addr} {H H' : Hp} {d : Ph} (h : PhS K H p d) (w : Well H a) (e : But a H H') : PhS K H' p d := by
  obtain ⟨dx, t1, t2, t3, h, a1, a2, a3⟩ := h
  refine ⟨dx, t1, t2, t3, e _ _ (fun q => ?_) h, sq_but a1 w e, sq_but a2 w e, sq_but a3 w e⟩
  obtain ⟨x, y, z, w⟩ := w
  rw [q, w] at h
  cases h
def spStg (K : PySem.W.Frag) : Sp := fun vs H Q _ => ∃ (a la : Addr) (n : Nat) (ws : List Str), vs = [.ref a, .int n, .ref la] ∧ Well H a ∧ n ≤ 20 ∧ H la = some (.lst (ws.map V.str)) ∧ la ≠ a ∧ ws.length ≤ 1000 ∧ ws.Nodup ∧ (∀ z ∈ ws, nameB z = true) ∧
  ∀ (ds : List Ph) (ps : List V) (H' : Hp) (l : Addr), Well H' a → But a H H' → H l = none → H' l = some (.lst ps) → Each (IsPh K) H' ps (ds.map some) → ds.length = n → (ds.map (·.z)).Nodup → (∀ d ∈ ds, d.ws.all ws.contains = true) → Q (.ref l) H'
theorem told_str {K : PySem.W.Frag} {H : Hp} {cs : List Str} (h : ∀ z ∈ cs, z.length ≤ 1000 ∧ PyData.canLay0 (.str z) = true) : Told K H (cs.map V.str) := fun x hx => by
  obtain ⟨z, hz, rfl⟩ := List.mem_map.mp hx
  exact .inl ⟨z, rfl, (h z hz).1, (h z hz).2⟩
theorem let_ok : ∀ c ∈ LET.cps.toList, c < 128 := by decide +kernel
theorem name_lay {z : Str} (h : nameB z = true) : z.length ≤ 1000 ∧ PyData.canLay0 (.str z) = true := by
  unfold nameB at h
  rw [Bool.and_eq_true, Bool.and_eq_true] at h
  obtain ⟨_, l, a⟩ := h
  have l := of_decide_eq_true l
  refine ⟨by omega, ?_⟩
  unfold PyData.canLay0 PyData.strOk
  rw [← Array.all_toList]
  exact List.all_eq_true.mpr fun c hc => decide_eq_true (Nat.lt_trans (let_ok c (of_decide_eq_true (List.all_eq_true.mp a c hc))) (by decide))
theorem lay_pr : ∀ z ∈ prW ++ waW, z.length ≤ 1000 ∧ PyData.canLay0 (.str z) = true := by decide +kernel
theorem isL_sub {K : PySem.W.Frag} {H : Hp} {p : Addr} {cs ws : List Str} {ok : List V → Bool} (hp : SqT K H p (cs.map V.str)) (sub : cs.Sublist ws) (lw : ws.length ≤ 1000) (lay : ∀ z ∈ ws, z.length ≤ 1000 ∧ PyData.canLay0 (.str z) = true) (h : ok (cs.map V.str) = true) : isL K H ok (.ref p) (some (cs.map V.str)) :=
  .inl ⟨p, _, rfl, .inr hp, told_str fun z hz => lay z (sub.subset hz), by rw [List.length_map]; exact Nat.le_trans sub.length_le lw, by rw [if_pos h]⟩
section
variable {P : Program} {w : World} {K : PySem.W.Frag} {mg : Str → Option Value} {base : Heap} {f : Addr} {fd fdD fdO fdT fdP fdI : FuncData}
abbrev nStg : List Str := ["_law_well_here", "_law_many", "_law_able", "_law_found", "_law_title", "_law_kept", "_law_ends", "_law_some", "_law_is_on"]
end
end K55

set_option maxRecDepth 100000
set_option maxHeartbeats 4000000
namespace K55
open PySem PySem.Spec PyProof.Rows L2 He VH RZ
/-! all ways back of n Phases, in order; a drawn part of them; what stands through draws -/
def rowW (i : Nat) : List (Int × Int) := (List.range i).map fun j : Nat => (((i : Nat) : Int), ((j : Nat) : Int))
def allW (n : Nat) : List (Int × Int) := (List.range n).flatMap rowW
theorem allW_succ (n : Nat) : allW (n + 1) = allW n ++ rowW n := by
  unfold allW
  rw [List.range_succ, List.flatMap_append]
  simp
theorem mem_row {i : Nat} {r : Int × Int} (h : r ∈ rowW i) : 0 ≤ r.2 ∧ r.2 < r.1 ∧ r.1 = (i : Int) := by
  obtain ⟨j, hj, rfl⟩ := List.mem_map.mp h
  have := List.mem_range.mp hj
  exact ⟨by show (0 : Int) ≤ (j : Int); omega, by show (j : Int) < (i : Int); omega, rfl⟩
theorem mem_allW {n : Nat} {r : Int × Int} (h : r ∈ allW n) : 0 ≤ r.2 ∧ r.2 < r.1 ∧ r.1 < (n : Int) := by
  obtain ⟨i, hi, hr⟩ := List.mem_flatMap.mp h
  have := List.mem_range.mp hi
  obtain ⟨a, b, c⟩ := mem_row hr
  exact ⟨a, b, by omega⟩
theorem row_nd (i : Nat) : (rowW i).Nodup := by
  unfold rowW List.Nodup
  rw [List.pairwise_map]
  refine List.Pairwise.imp ?_ (List.nodup_range (n := i))
  intro x y ne e
  exact ne (Int.ofNat_inj.mp (Prod.mk.inj e).2)
theorem allW_nd : ∀ n : Nat, (allW n).Nodup
  | 0 => List.nodup_nil
  | n + 1 => by
    rw [allW_succ, List.nodup_append]
    refine ⟨allW_nd n, row_nd n, fun x hx y hy e => ?_⟩
    have a := (mem_allW hx).2.2
    have b := (mem_row hy).2.2
    rw [e] at a
    omega
theorem allW_len : ∀ n : Nat, n ≤ 6 → (allW n).length ≤ 36 := by decide
/-- a drawn part of them is right -/
theorem ways_ok {n : Nat} {rs : List (Int × Int)} (h : rs.Sublist (allW n)) : badY rs n = none :=
  badY_iff.mpr ⟨(allW_nd n).sublist h, fun r hr => mem_allW (h.subset hr)⟩
theorem wr_but {K : PySem.W.Frag} {a p : Addr} {H H' : Hp} {z : Str} {xs : List V} {b : Bool} (h : WrAt K H p z xs b) (w : Well H a) (e : But a H H') : WrAt K H' p z xs b := by
  obtain ⟨dx, t, h1, h2⟩ := h
  obtain ⟨x, y, v, w⟩ := w
  refine ⟨dx, t, e _ _ (fun q => ?_) h1, e _ _ (fun q => ?_) h2⟩
  · rw [q, w] at h1
    cases h1
  · rw [q, w] at h2
    cases h2
theorem fl_but {K : PySem.W.Frag} {a c p : Addr} {H H' : Hp} {d : Fl} (h : FlAt K H c p d) (w : Well H a) (e : But a H H') : FlAt K H' c p d := by
  obtain ⟨dx, h⟩ := h
  obtain ⟨x, y, v, w⟩ := w
  refine ⟨dx, e _ _ (fun q => ?_) h⟩
  rw [q, w] at h
  cases h
theorem flk_but {K : PySem.W.Frag} {a c : Addr} {H H' : Hp} (h : FlK K H c) (w : Well H a) (e : But a H H') : FlK K H' c := by
  obtain ⟨p, d, h, xs, hp, pl⟩ := h
  obtain ⟨x, y, v, w'⟩ := id w
  exact ⟨p, d, fl_but h w e, xs, e _ _ (fun q => by rw [q, w'] at hp; cases hp) hp, pl⟩
theorem wy_but {K : PySem.W.Frag} {a : Addr} {H H' : Hp} {x : V} {r : Int × Int} (h : WyAt K H x r) (w : Well H a) (e : But a H H') : WyAt K H' x r := by
  obtain ⟨p, ex, h⟩ := h
  exact ⟨p, ex, sq_but h w e⟩
theorem wrs_but {K : PySem.W.Frag} {a : Addr} {H H' : Hp} {ws : List V} {zs : List Str} (h : Each (IsWr K) H ws (zs.map some)) (w : Well H a) (e : But a H H') : Each (IsWr K) H' ws (zs.map some) := ⟨h.1, fun i x q => by
  obtain ⟨r, er, p⟩ := h.2 i x q
  obtain ⟨z, rfl⟩ := mem_some er
  obtain ⟨c, xs, b, rfl, hw⟩ := p
  exact ⟨_, er, c, xs, b, rfl, wr_but hw w e⟩⟩
theorem phs_but {K : PySem.W.Frag} {a : Addr} {H H' : Hp} {ps : List V} {ds : List Ph} (h : Each (IsPh K) H ps (ds.map some)) (w : Well H a) (e : But a H H') : Each (IsPh K) H' ps (ds.map some) := ⟨h.1, fun i x q => by
  obtain ⟨r, er, p⟩ := h.2 i x q
  obtain ⟨d, rfl⟩ := mem_some er
  obtain ⟨⟨c, rfl, hp⟩, l⟩ := p
  exact ⟨_, er, ⟨c, rfl, ph_but hp w e⟩, l⟩⟩
end K55

set_option maxRecDepth 100000
set_option maxHeartbeats 4000000
namespace K55
open PySem PySem.Spec PyProof.Rows L2 He VH RZ
/-! a drawn Rollout -/
def spDro (K : PySem.W.Frag) : Sp := fun vs H Q _ => ∃ (a : Addr) (n h1 h2 : Nat), vs = [.ref a, .int n, .int h1, .int h2] ∧ Well H a ∧ 1 ≤ n ∧ n ≤ 6 ∧ h1 ≤ 2 ∧ 1 ≤ h2 ∧ h2 ≤ 2 ∧
  ∀ (d : Ro) (ws ps bs : List V) (fa c : Addr) (H' : Hp), Well H' a → But a H H' → Roll K H' c ws ps bs fa d → d.ds.length ≤ n → Q (.ref c) H'
theorem Each.app {α : Type} {p : Hp → V → α → Prop} {H : Hp} {xs ys : List V} {zs us : List α} (h : Each p H xs zs) (g : Each p H ys us) : Each p H (xs ++ ys) (zs ++ us) := by
  refine ⟨by rw [List.length_append, List.length_append, h.1, g.1], fun i y e => ?_⟩
  rw [List.getElem?_append] at e ⊢
  rw [← h.1]
  by_cases c : i < xs.length
  · rw [if_pos c] at e ⊢
    exact h.2 i y e
  · rw [if_neg c] at e ⊢
    exact g.2 _ y e
section
variable {P : Program} {w : World} {K : PySem.W.Frag} {mg : Str → Option Value} {base : Heap} {f : Addr} {fd fdD fdO fdT fdP fdI fdG fdF fdW fdS : FuncData}
abbrev nDro : List Str := ["_law_well_here", "_law_many", "_law_most_hands", "_law_most_hired", "_law_able", "_law_staff", "_law_plan", "_law_ways", "_law_one_here", "_law_title", "_law_other", "_law_way"]
end
end K55

set_option maxRecDepth 100000
set_option maxHeartbeats 4000000
namespace K55
open PySem PySem.Spec PyProof.Rows L2 He VH RZ
/-! lists that are written out, one of which is drawn -/
def tAl : List TE → TA
  | [] => tNil
  | t :: r => tCons t (tAl r)
def tTx : List Str → TA
  | [] => tNil
  | u :: r => tCons (tC (.str u)) (tTx r)
theorem run_tx {σ : L2.St} {H : Hp} : ∀ (cs : List Str) {Q : List V → Hp → Prop}, Q (cs.map V.str) H → tTx cs σ H Q
  | [], _, h => h
  | u :: r, _, h => run_tx r h
theorem run_al {α : Type} {p : Hp → V → α → Prop} {σ : L2.St} (st : ∀ G G' x z, Same G G' → p G x z → p G' x z) : ∀ (l : List (TE × α)) {H : Hp} {Q : List V → Hp → Prop}, (∀ q ∈ l, ∀ (G : Hp) (R : VK), (∀ x G', Same G G' → p G' x q.2 → R x G') → q.1 σ G R) →
    (∀ vs G', Same H G' → Each p G' vs (l.map (·.2)) → Q vs G') → tAl (l.map (·.1)) σ H Q
  | [], H, Q, _, k => k [] H (fun _ _ e => e) ⟨rfl, fun i x e => by cases e⟩
  | q :: r, H, Q, h, k => by
    refine h q List.mem_cons_self H _ fun x G1 s1 p1 => ?_
    refine run_al st r (fun y hy => h y (List.mem_cons_of_mem _ hy)) fun vs G2 s2 e2 => ?_
    refine k (x :: vs) G2 (s1.trans s2) ⟨by rw [List.length_cons, e2.1]; rfl, fun i y e => ?_⟩
    cases i with
    | zero =>
      cases e
      exact ⟨q.2, rfl, st _ _ _ _ s2 p1⟩
    | succ i => exact e2.2 i y e
/-- a tuple of texts -/
def TxA (G : Hp) (x : V) (cs : List Str) : Prop := ∃ q, x = .ref q ∧ G q = some (.tup (cs.map V.str))
theorem TxA.same {G G' : Hp} {x : V} {cs : List Str} (s : Same G G') (h : TxA G x cs) : TxA G' x cs := let ⟨q, e, h⟩ := h; ⟨q, e, s _ _ h⟩
theorem TxA.but {a : Addr} {G G' : Hp} {x : V} {cs : List Str} (h : TxA G x cs) (w : Well G a) (b : But a G G') : TxA G' x cs := let ⟨q, e, h⟩ := h; ⟨q, e, but_tup b w h⟩
theorem TxA.sq {K : PySem.W.Frag} {G : Hp} {q : Addr} {cs : List Str} (h : TxA G (.ref q) cs) : SqT K G q (cs.map V.str) := by
  obtain ⟨q', e, h⟩ := h
  cases e
  exact SqT.of h
def tTup1 (cs : List Str) : TE := tTup (tTx cs)
theorem run_tup {σ : L2.St} {G : Hp} {R : VK} {cs : List Str} (l : cs.length ≤ 1000) (k : ∀ x G', Same G G' → TxA G' x cs → R x G') : tTup1 cs σ G R := by
  refine run_tx cs ⟨by rw [List.length_map]; exact Nat.le_trans l (by decide), fun p np => ?_⟩
  exact k _ _ (Same.new np) ⟨p, rfl, upd_same⟩
/-- a written statement -/
def StA (G : Hp) (x : V) (s : Stp) : Prop := ∃ p, x = .ref p ∧ StAt G p s
theorem StA.same {G G' : Hp} {x : V} {s : Stp} (e : Same G G') (h : StA G x s) : StA G' x s := let ⟨p, q, h⟩ := h; ⟨p, q, h.same fun _ _ z => e _ _ z⟩
theorem StA.but {a : Addr} {G G' : Hp} {x : V} {s : Stp} (h : StA G x s) (w : Well G a) (b : But a G G') : StA G' x s := let ⟨p, q, h⟩ := h; ⟨p, q, but_st b w h⟩
def tTxE : List Str → TA → TA
  | [], r => r
  | u :: l, r => tCons (tC (.str u)) (tTxE l r)
def tStC (u : Str) (mid cs : List Str) : TE := tTup (tTxE (u :: mid) (tCons (tTup1 cs) tNil))
def tStI (mid : List Str) : TE := tTup (tTx ("insert" :: mid))
theorem run_txE {σ : L2.St} {r : TA} {H : Hp} : ∀ (cs : List Str) {Q : List V → Hp → Prop}, r σ H (fun vs G => Q (cs.map V.str ++ vs) G) → tTxE cs r σ H Q
  | [], _, h => h
  | u :: l, Q, h => run_txE l (Q := fun vs G => Q (.str u :: vs) G) h
theorem run_stC {σ : L2.St} {G : Hp} {R : VK} {u : Str} {mid cs : List Str} (ne : u ≠ "insert") (l1 : mid.length ≤ 1000) (l2 : cs.length ≤ 1000) (k : ∀ x G', Same G G' → StA G' x ⟨u, mid, cs⟩ → R x G') : tStC u mid cs σ G R := by
  unfold tStC tTup
  refine run_txE (u :: mid) ?_
  refine run_tup l2 fun x G1 s1 h1 => ?_
  refine ⟨?_, fun p np => ?_⟩
  · have : 2000 < sizeLine := by decide
    simp
    omega
  · have S := Same.new (o := .tup ((u :: mid).map V.str ++ [x])) np
    obtain ⟨q, rfl, hq⟩ := h1
    refine k _ _ (s1.trans S) ⟨p, rfl, ?_⟩
    unfold StAt
    rw [if_neg ne]
    exact ⟨q, upd_same, S _ _ hq⟩
theorem run_stI {σ : L2.St} {G : Hp} {R : VK} {mid : List Str} (l1 : mid.length ≤ 1000) (k : ∀ x G', Same G G' → StA G' x ⟨"insert", mid, []⟩ → R x G') : tStI mid σ G R := by
  unfold tStI tTup
  refine run_tx _ ⟨?_, fun p np => ?_⟩
  · have : 2000 < sizeLine := by decide
    simp
    omega
  · refine k _ _ (Same.new np) ⟨p, rfl, ?_⟩
    unfold StAt
    rw [if_pos rfl]
    exact upd_same
/-- one of what is written out -/
abbrev tOne (K : PySem.W.Frag) (te : TE) : TE := tCall (spOne K) [] E0 (tCons (tVar 0) (tCons te tNil))
theorem run_one {α : Type} {p : Hp → V → α → Prop} {K : PySem.W.Frag} {σ : L2.St} {H : Hp} {a : Addr} {R : VK} {te : TE} {zs : List α} (e0 : σ[0]? = some (some (.ref a))) (w : Well H a) (ne : zs ≠ []) (lz : zs.length ≤ 1000) (but : ∀ G G' x z, Well G a → But a G G' → p G x z → p G' x z)
    (he : ∀ Q : VK, (∀ l vs G, Same H G → H l = none → G l = some (.lst vs) → Each p G vs zs → Q (.ref l) G) → te σ H Q) (k : ∀ x G z, Well G a → But a H G → z ∈ zs → p G x z → R x G) : tOne K te σ H R := by
  refine ⟨_, e0, ?_⟩
  refine he _ fun l vs G s nl hl ev => ?_
  have lv := ev.1
  refine ⟨a, l, vs, rfl, w.same s, w.new nl, hl, ?_, ?_, fun G' x hx w' b' => ?_⟩
  · rw [lv]
    exact List.length_pos_iff.mpr ne
  · omega
  · obtain ⟨i, hi, e⟩ := List.getElem_of_mem hx
    obtain ⟨z, ez, hp⟩ := ev.2 i x (by rw [← e]; exact List.getElem?_eq_getElem hi)
    exact k x G' z w' ((But.of s).trans b') (List.mem_of_getElem? ez) (but _ _ _ _ (w.same s) b' hp)
/-- a list that is written out -/
theorem run_lst {α : Type} {p : Hp → V → α → Prop} {σ : L2.St} {H : Hp} {Q : VK} (l : List (TE × α)) (lz : l.length ≤ 1000) (st : ∀ G G' x z, Same G G' → p G x z → p G' x z) (h : ∀ q ∈ l, ∀ (G : Hp) (R : VK), (∀ x G', Same G G' → p G' x q.2 → R x G') → q.1 σ G R)
    (k : ∀ b vs G, Same H G → H b = none → G b = some (.lst vs) → Each p G vs (l.map (·.2)) → Q (.ref b) G) : tLst (tAl (l.map (·.1))) σ H Q := by
  refine run_al st l h fun vs G s e => ⟨?_, fun b nb => ?_⟩
  · have := e.1
    rw [List.length_map] at this
    have : 1000 < sizeLine := by decide
    omega
  · have S := Same.new (o := .lst vs) nb
    exact k b vs _ (s.trans S) (s.free nb) upd_same ⟨e.1, fun i x q => let ⟨r, a1, a2⟩ := e.2 i x q; ⟨r, a1, st _ _ _ _ S a2⟩⟩
def tOpts (l : List (List Str)) : TE := tLst (tAl ((l.map fun cs => (tTup1 cs, cs)).map (·.1)))
theorem run_opts {K : PySem.W.Frag} {σ : L2.St} {H : Hp} {a : Addr} {R : VK} (l : List (List Str)) (e0 : σ[0]? = some (some (.ref a))) (w : Well H a) (ok : (!l.isEmpty && decide (l.length ≤ 1000) && l.all fun cs => decide (cs.length ≤ 1000)) = true)
    (k : ∀ x G cs, Well G a → But a H G → cs ∈ l → TxA G x cs → R x G) : tOne K (tOpts l) σ H R := by
  rw [Bool.and_eq_true, Bool.and_eq_true] at ok
  obtain ⟨⟨o1, o2⟩, o3⟩ := ok
  have o2 := of_decide_eq_true o2
  refine run_one (p := TxA) (zs := l) e0 w (fun z => by rw [z] at o1; cases o1) o2 (fun _ _ _ _ w b h => TxA.but h w b) (fun Q q => ?_) k
  refine run_lst (p := TxA) (l.map fun cs => (tTup1 cs, cs)) (by rw [List.length_map]; exact o2) (fun _ _ _ _ s h => h.same s) (fun y hy G R h => ?_) (fun b vs G s nb hb e => q b vs G s nb hb (by rw [List.map_map] at e; rw [show l = l.map ((fun x : TE × List Str => x.2) ∘ fun cs => (tTup1 cs, cs)) from (List.map_id l).symm]; exact e))
  obtain ⟨cs, hc, rfl⟩ := List.mem_map.mp hy
  exact run_tup (of_decide_eq_true (List.all_eq_true.mp o3 cs hc)) h
/-- texts that are written out -/
theorem run_txs {K : PySem.W.Frag} {σ : L2.St} {H : Hp} {a : Addr} {R : VK} (l : List Str) (e0 : σ[0]? = some (some (.ref a))) (w : Well H a) (ok : (!l.isEmpty && decide (l.length ≤ 1000)) = true) (k : ∀ u G, Well G a → But a H G → u ∈ l → R (.str u) G) : tOne K (tLst (tTx l)) σ H R := by
  rw [Bool.and_eq_true] at ok
  obtain ⟨o1, o2⟩ := ok
  have o2 := of_decide_eq_true o2
  have big : 1000 < sizeLine := by decide
  refine run_one (p := fun _ x (u : Str) => x = .str u) (zs := l) e0 w (fun z => by rw [z] at o1; cases o1) o2 (fun _ _ _ _ _ _ h => h) (fun Q q => ?_) (fun x G z w b hz hp => by cases hp; exact k z G w b hz)
  refine run_tx l ⟨by rw [List.length_map]; omega, fun b nb => q b _ _ (Same.new nb) nb upd_same ⟨by rw [List.length_map], fun i x e => ?_⟩⟩
  rw [List.getElem?_map] at e
  obtain ⟨u, e1, e2⟩ := Option.map_eq_some_iff.mp e
  exact ⟨u, e1, e2.symm⟩
end K55

set_option maxRecDepth 100000
set_option maxHeartbeats 4000000
namespace K55
open PySem PySem.Spec PyProof.Rows L2 He VH RZ
/-! what is made of right parts -/
section
variable {K : PySem.W.Frag} {fd : FuncData}
theorem kPhD (F : FnPhI K fd) : ∃ mv : List Value, KBn K fd nPhI 2 ["writers", "promises", "waits"] (fun us ws => us ++ (ws.take 1 ++ (mv ++ ws.drop 1))) (fun vs zs => vs ++ (zs.take 1 ++ ((([("fills", .bl false)] : List (Str × V)).map (·.2)) ++ zs.drop 1))) :=
  FunD.kbinds0 F 2 ["writers", "promises", "waits"] [("fills", .bl false)] (fun us its ws => us ++ (ws.take 1 ++ (its ++ ws.drop 1))) (by simp [kwP]) (by simp [kwP]) (fun a d b => a.append ((b.take 1).append (d.append (b.drop 1))))
    fun D doc pm an cdv ct us mv ws l1 l2 l3 => match us, mv, ws, l1, l2, l3 with
      | [_, _], [_], [_, _, _], _, _, _ => ⟨_, _, _, _, _, _, rfl, rfl, rfl⟩
theorem kPhE (F : FnPhI K fd) : ∃ mv : List Value, KBn K fd nPhI 2 ["writers", "promises"] (fun us ws => us ++ (ws.take 1 ++ (mv.take 1 ++ (ws.drop 1 ++ mv.drop 1)))) (fun vs zs => vs ++ (zs.take 1 ++ ((((([("fills", .bl false), ("waits", .ref (kwA ("Phase", some "__init__") "waits" K))] : List (Str × V)).map (·.2)).take 1) ++ (zs.drop 1 ++ ((([("fills", .bl false), ("waits", .ref (kwA ("Phase", some "__init__") "waits" K))] : List (Str × V)).map (·.2)).drop 1)))))) :=
  FunD.kbinds0 F 2 ["writers", "promises"] [("fills", .bl false), ("waits", .ref (kwA ("Phase", some "__init__") "waits" K))] (fun us its ws => us ++ (ws.take 1 ++ (its.take 1 ++ (ws.drop 1 ++ its.drop 1)))) (by simp [kwP]) (by simp [kwP]) (fun a d b => a.append ((b.take 1).append ((d.take 1).append ((b.drop 1).append (d.drop 1)))))
    fun D doc pm an cdv ct us mv ws l1 l2 l3 => match us, mv, ws, l1, l2, l3 with
      | [_, _], [_, _], [_, _], _, _, _ => ⟨_, _, _, _, _, _, rfl, rfl, _, _, _, _, _, _, rfl, rfl, rfl⟩
theorem kFlB (F : FnFlI K fd) : ∃ mv : List Value, KBn K fd pFlI 2 ["batch", "save", "lock", "only_missing", "falls"] (fun us ws => us ++ (ws ++ mv)) (fun vs zs => vs ++ (zs ++ (([("again", .bl false)] : List (Str × V)).map (·.2)))) :=
  FunD.kbinds0 F 2 ["batch", "save", "lock", "only_missing", "falls"] [("again", .bl false)] (fun us its ws => us ++ (ws ++ its)) (by simp [kwF]) (by simp [kwF]) (fun a d b => a.append (b.append d))
    fun D doc pm an cdv ct us mv ws l1 l2 l3 => match us, mv, ws, l1, l2, l3 with
      | [_, _], [_], [_, _, _, _, _], _, _, _ => ⟨_, _, _, _, _, _, rfl, rfl, rfl⟩
theorem kRoB (F : FnRoI K fd) : ∃ mv : List Value, KBn K fd pRoI 4 ["hands", "back"] (fun us ws => us ++ (mv ++ ws)) (fun vs zs => vs ++ ((([("workers", .int 1)] : List (Str × V)).map (·.2)) ++ zs)) :=
  FunD.kbinds0 F 4 ["hands", "back"] [("workers", .int 1)] (fun us its ws => us ++ (its ++ ws)) (by simp [kwR]) (by simp [kwR]) (fun a d b => a.append (d.append b))
    fun D doc pm an cdv ct us mv ws l1 l2 l3 => match us, mv, ws, l1, l2, l3 with
      | [_, _, _, _], [_], [_, _], _, _, _ => ⟨_, _, _, _, _, _, rfl, rfl, rfl⟩
end
/-- statements that are written out: insert or not -/
def tStm : Bool × Stp → TE
  | (true, s) => tStI s.mid
  | (false, s) => tStC s.w s.mid s.cs
def stmB (q : Bool × Stp) : Bool := if q.1 then decide (q.2 = ⟨"insert", q.2.mid, []⟩) && decide (q.2.mid.length ≤ 1000) else decide (q.2.w ≠ "insert") && (decide (q.2.mid.length ≤ 1000) && decide (q.2.cs.length ≤ 1000))
theorem run_stm {σ : L2.St} {G : Hp} {R : VK} (q : Bool × Stp) (o : stmB q = true) (k : ∀ x G', Same G G' → StA G' x q.2 → R x G') : tStm q σ G R := by
  obtain ⟨b, s⟩ := q
  unfold stmB at o
  cases b with
  | true =>
    rw [if_pos rfl, Bool.and_eq_true] at o
    have e := of_decide_eq_true o.1
    refine run_stI (of_decide_eq_true o.2) fun x G' S h => k x G' S ?_
    rw [e]
    exact h
  | false =>
    rw [if_neg Bool.false_ne_true, Bool.and_eq_true, Bool.and_eq_true] at o
    exact run_stC (of_decide_eq_true o.1) (of_decide_eq_true o.2.1) (of_decide_eq_true o.2.2) k
def tStms (l : List (Bool × Stp)) : TE := tLst (tAl ((l.map fun q => (tStm q, q.2)).map (·.1)))
theorem run_stms {K : PySem.W.Frag} {σ : L2.St} {H : Hp} {a : Addr} {R : VK} (l : List (Bool × Stp)) (e0 : σ[0]? = some (some (.ref a))) (w : Well H a) (ok : (!l.isEmpty && decide (l.length ≤ 1000) && l.all stmB) = true)
    (k : ∀ p G s, Well G a → But a H G → s ∈ l.map (·.2) → StAt G p s → R (.ref p) G) : tOne K (tStms l) σ H R := by
  rw [Bool.and_eq_true, Bool.and_eq_true] at ok
  obtain ⟨⟨o1, o2⟩, o3⟩ := ok
  have o2 := of_decide_eq_true o2
  refine run_one (p := StA) (zs := l.map (·.2)) e0 w (fun z => by cases l with | nil => cases o1 | cons => cases z) (by rw [List.length_map]; exact o2) (fun _ _ _ _ w b h => StA.but h w b) (fun Q q => ?_) (fun x G z w b hz h => by obtain ⟨p, rfl, h⟩ := h; exact k p G z w b hz h)
  refine run_lst (p := StA) (l.map fun q => (tStm q, q.2)) (by rw [List.length_map]; exact o2) (fun _ _ _ _ s h => h.same s) (fun y hy G R h => ?_) (fun b vs G s nb hb e => q b vs G s nb hb (by rw [List.map_map] at e; exact e))
  obtain ⟨y2, hy2, rfl⟩ := List.mem_map.mp hy
  exact run_stm y2 (List.all_eq_true.mp o3 y2 hy2) h
def earlyL : List (Bool × Stp) := [(false, ⟨"set", ["input", "keep"], []⟩), (false, ⟨"set", ["input", "none"], []⟩), (false, ⟨"set", ["input", "keep"], []⟩)]
def moreL : List (Bool × Stp) := [(true, ⟨"insert", ["none"], []⟩), (true, ⟨"insert", ["now"], []⟩), (false, ⟨"delete", [], []⟩), (false, ⟨"set", ["keep", "now"], []⟩)]
def freshS : Stp := ⟨"set", ["input", "now"], []⟩
def oneOk (s : Stp) : Bool := s.ok && (bad [.st s]).isNone
theorem ok_lists : (∀ s ∈ earlyL.map (·.2), oneOk s = true) ∧ (∀ s ∈ moreL.map (·.2), oneOk s = true) ∧ oneOk freshS = true := by decide +kernel
theorem ok_two : ∀ cs ∈ ([[], ["same old"], ["missing"]] : List (List Str)), (Stp.ok ⟨"set", ["keep", "read"], cs⟩ && (bad [.read, .st ⟨"set", ["keep", "read"], cs⟩]).isNone) = true := by decide +kernel
def cksL : List (List Str) := [[], ["missing"], ["same old"], ["same old", "same new"], ["same old"]]
theorem ok_fil : ∀ u ∈ (["keep", "keep", "keep", "keep", "keep", "read"] : List Str), ∀ v ∈ (["read", "now"] : List Str), ∀ cs ∈ cksL, (Stp.ok ⟨"set", [u, v], cs⟩ && Stp.fill ⟨"set", [u, v], cs⟩) = true := by decide +kernel
theorem ok_put : (Stp.ok ⟨"put", ["now"], []⟩ && Stp.fill ⟨"put", ["now"], []⟩) = true := by decide +kernel
/-- a Writer of right steps; what follows is told of the state alone -/
theorem mk_wrS {K : PySem.W.Frag} {H : Hp} {z : Str} {xs : List V} {ds : List Sd} {S : Hp → Prop} {E : XK} {x dx : Addr} (nz : nameB z = true) (sd : SdL K H xs ds) (l1 : 1 ≤ xs.length) (l2 : xs.length ≤ 3) (nb : bad ds = none) (nx : H x = none) (nd : H dx = none) (ne : dx ≠ x)
    (k : ∀ H', Same H H' → IsWr K H' (.ref x) (some z) → S H') : spWr K (V.ref x :: .str z :: xs) (upd (upd H dx (.own x)) x (.ins (ga K "Writer") dx [])) (fun v H2 => v = .non ∧ S H2) E := by
  have S0 := same_ins (o := .own x) (o' := .ins (ga K "Writer") dx []) nx nd ne
  have big : 1000 < sizeLine := by decide
  refine ⟨[.ref x, .str z], xs, rfl, rfl, by omega, fun p np => ?_⟩
  have S1 := Same.new (o := .tup xs) np
  have S2 := S0.trans S1
  have ln := sd.len
  have er : refuse (some z) ds = none := by
    unfold refuse
    rw [if_neg (by simp), if_neg (by omega), nb]
    rfl
  refine ⟨x, dx, p, .str z, some z, xs, ds, rfl, S1 _ _ upd_same, upd_same, .inl ⟨z, rfl, (name_lay nz).1, by rw [nz]; rfl⟩, sd.same S2, by omega, fun u i e => ?_, fun z' e0 er' H' bt at_ => ⟨rfl, ?_⟩⟩
  · rw [er] at e
    cases e
  · obtain rfl := Option.some.inj e0
    exact k H' (same_but S2 nx bt) ⟨x, _, _, rfl, at_⟩
theorem wr_one {K : PySem.W.Frag} {G : Hp} {z : Str} {p : Addr} {s : Stp} {S : Hp → Prop} {E : XK} {x dx : Addr} (nz : nameB z = true) (o : oneOk s = true) (h : StAt G p s) (nx : G x = none) (nd : G dx = none) (ne : dx ≠ x) (k : ∀ G' : Hp, Same G G' → IsWr K G' (.ref x) (some z) → S G') :
    spWr K [.ref x, .str z, .ref p] (upd (upd G dx (.own x)) x (.ins (ga K "Writer") dx [])) (fun v H2 => v = .non ∧ S H2) E := by
  unfold oneOk at o
  rw [Bool.and_eq_true] at o
  exact mk_wrS (xs := [.ref p]) (ds := [.st s]) nz (.cons ⟨p, rfl, h, o.1⟩ .nil) (by simp) (by simp) (Option.isNone_iff_eq_none.mp o.2) nx nd ne k
/-- a Phase of right parts -/
def phB (z : Str) (ws ps qs : List Str) : Bool := nameB z && (nmsB (ws.map V.str) && (wdsB (ps.map V.str) prW && (wdsB (qs.map V.str) waW && (ws.all nameB && (decide (ws.length ≤ 1000) && (ps.all (fun y => (prW ++ waW).contains y) && (qs.all (fun y => (prW ++ waW).contains y) && (decide (ps.length ≤ 1000) && decide (qs.length ≤ 1000)))))))))
theorem isL_of {K : PySem.W.Frag} {H : Hp} {p : Addr} {cs : List Str} {ok : List V → Bool} (hp : SqT K H p (cs.map V.str)) (l : cs.length ≤ 1000) (lay : ∀ z ∈ cs, z.length ≤ 1000 ∧ PyData.canLay0 (.str z) = true) (h : ok (cs.map V.str) = true) : isL K H ok (.ref p) (some (cs.map V.str)) :=
  isL_sub hp (List.Sublist.refl cs) l lay h
theorem mk_ph {K : PySem.W.Frag} {G : Hp} {z : Str} {ws ps qs : List Str} {b : Bool} {p1 p3 p4 : Addr} {S : Hp → Prop} {E : XK} {x dx : Addr} (o : phB z ws ps qs = true) (h1 : SqT K G p1 (ws.map V.str)) (h3 : SqT K G p3 (ps.map V.str)) (h4 : SqT K G p4 (qs.map V.str))
    (nx : G x = none) (ndx : G dx = none) (ne : dx ≠ x) (k : ∀ G' : Hp, Same G G' → IsPh K G' (.ref x) (some ⟨z, ws, b, ps, qs⟩) → S G') :
    spPhI K [.ref x, .str z, .ref p1, .bl b, .ref p3, .ref p4] (upd (upd G dx (.own x)) x (.ins (ga K "Phase") dx [])) (fun v H2 => v = .non ∧ S H2) E := by
  unfold phB at o
  simp only [Bool.and_eq_true] at o
  obtain ⟨o0, o1, o2, o3, o4, o5, o6, o7, o8, o9⟩ := o
  have U1 := Same.new (o := .own x) ndx
  have nx1 : upd G dx (.own x) x = none := by rw [upd_ne (Ne.symm ne)]; exact nx
  have U2 := U1.trans (Same.new (o := .ins (ga K "Phase") dx []) nx1)
  have lay : ∀ {l : List Str}, l.all (fun y => (prW ++ waW).contains y) = true → ∀ y ∈ l, y.length ≤ 1000 ∧ PyData.canLay0 (.str y) = true := fun h y hy => lay_pr y (List.contains_iff_mem.mp (List.all_eq_true.mp h y hy))
  refine ⟨x, dx, .str z, .ref p1, .bl b, .ref p3, .ref p4, some z, some (ws.map V.str), some b, some (ps.map V.str), some (qs.map V.str), rfl, upd_same, .inl ⟨z, rfl, (name_lay o0).1, by rw [if_pos o0]⟩,
      isL_of (h1.same U2) (of_decide_eq_true o5) (fun y hy => name_lay (List.all_eq_true.mp o4 y hy)) o1, .inl ⟨b, rfl, rfl⟩,
      isL_of (h3.same U2) (of_decide_eq_true o8) (lay o6) o2, isL_of (h4.same U2) (of_decide_eq_true o9) (lay o7) o3,
      fun u e => by simp [wrong] at e, fun z' ws' b' ps' qs' e0 e1 e2 e3 e4 H' Bx ph => ?_⟩
  cases e0
  cases e1
  cases e2
  cases e3
  cases e4
  have S5 : Same G H' := But.new ((But.of U1).trans (But.upd.trans Bx)) nx
  exact ⟨rfl, k H' S5 ⟨⟨x, rfl, ph⟩, of_decide_eq_true o5⟩⟩
theorem each1 {α : Type} {p : Hp → V → α → Prop} {G : Hp} {x : V} {z : α} (h : p G x z) : Each p G [x] [z] := ⟨rfl, fun i y e => by
  cases i with
  | zero => cases e; exact ⟨z, rfl, h⟩
  | succ i => cases e⟩
theorem each3 {α : Type} {p : Hp → V → α → Prop} {G : Hp} {x1 x2 x3 : V} {z1 z2 z3 : α} (h1 : p G x1 z1) (h2 : p G x2 z2) (h3 : p G x3 z3) : Each p G [x1, x2, x3] [z1, z2, z3] := ⟨rfl, fun i y e => by
  match i, e with
  | 0, e => cases e; exact ⟨_, rfl, h1⟩
  | 1, e => cases e; exact ⟨_, rfl, h2⟩
  | 2, e => cases e; exact ⟨_, rfl, h3⟩
  | i + 3, e => cases e⟩
/-- the list of Writers -/
def Stf (K : PySem.W.Frag) (G : Hp) (l : Addr) : Prop := ∃ ws : List V, G l = some (.lst ws) ∧ Each (IsWr K) G ws ((["old", "fresh", "more"] : List Str).map some)
theorem Stf.but {K : PySem.W.Frag} {G G' : Hp} {a l : Addr} (h : Stf K G l) (w : Well G a) (n : l ≠ a) (b : But a G G') : Stf K G' l := let ⟨ws, e, g⟩ := h; ⟨ws, b _ _ n e, wrs_but g w b⟩
theorem But.keep {a l : Addr} {H G : Hp} {u : HO} (b : But a H G) (nl : H l = none) : But a H (upd G l u) := fun x o n e => by
  rw [upd_ne (ne_of_none e nl)]
  exact b x o n e
theorem But.none {a l : Addr} {H G : Hp} (b : But a H G) (n : l ≠ a) (nl : G l = none) : H l = none := by
  cases e : H l with
  | none => rfl
  | some o =>
    rw [b l o n e] at nl
    cases nl
/-- [u] * 5 + [v], one of it -/
theorem run_rep {K : PySem.W.Frag} {σ : L2.St} {H : Hp} {a : Addr} {R : VK} {u v : Str} (e0 : σ[0]? = some (some (.ref a))) (w : Well H a) (k : ∀ z G, Well G a → But a H G → z ∈ [u, u, u, u, u, v] → R (.str z) G) :
    tOne K (tOp rCat (tOp rRep (tLst (tCons (tC (.str u)) tNil)) (tC (.int 5))) (tLst (tCons (tC (.str v)) tNil))) σ H R := by
  refine ⟨_, e0, (show 1 ≤ sizeLine by decide), fun l1 n1 => ⟨l1, 5, _, rfl, rfl, upd_same, by decide, by decide, (show 1 * 5 ≤ sizeLine by decide), fun l2 n2 => ⟨(show 1 ≤ sizeLine by decide), fun l3 n3 => ?_⟩⟩⟩
  have S1 := Same.new (o := .lst [.str u]) n1
  generalize upd H l1 (.lst [.str u]) = H1 at S1 n2 n3 ⊢
  have S2 := Same.new (o := .lst (List.replicate (Int.toNat 5) [V.str u]).flatten) n2
  have h2 : upd H1 l2 (.lst (List.replicate (Int.toNat 5) [V.str u]).flatten) l2 = some (.lst [.str u, .str u, .str u, .str u, .str u]) := upd_same
  generalize upd H1 l2 (.lst (List.replicate (Int.toNat 5) [V.str u]).flatten) = H2 at S2 n3 h2 ⊢
  have S3 := Same.new (o := .lst [.str v]) n3
  refine ⟨l2, l3, _, _, rfl, rfl, S3 _ _ h2, upd_same, (show 5 + 1 ≤ sizeLine by decide), fun q nq => ?_⟩
  have S4 := Same.new (o := .lst ([.str u, .str u, .str u, .str u, .str u] ++ [V.str v])) nq
  have S := S1.trans (S2.trans S3)
  have w3 := w.same S
  refine ⟨a, q, [.str u, .str u, .str u, .str u, .str u, .str v], rfl, w3.same S4, w3.new nq, upd_same, (show 0 < 6 by decide), (show 6 < 1073741824 by decide), fun G x hx w' b' => ?_⟩
  obtain ⟨z, hz, rfl⟩ := List.mem_map.mp (show x ∈ [u, u, u, u, u, v].map V.str from hx)
  exact k z G w' ((But.of (S.trans S4)).trans b') hz
/-! what stands when a list is stored -/
section
variable {K : PySem.W.Frag} {H H' : Hp} {l : Addr} {ys : List V}
theorem flk_off {c : Addr} (h : FlK K H c) (hl : H l = some (.lst ys)) (e : But l H H') : FlK K H' c := by
  obtain ⟨p, d, ⟨dx, h⟩, xs, hp, pl⟩ := h
  exact ⟨p, d, ⟨dx, e _ _ (fun q => by rw [q, hl] at h; cases h) h⟩, xs, e _ _ (fun q => by rw [q, hl] at hp; cases hp) hp, pl⟩
theorem isWr_off {x : V} {z : Str} (h : IsWr K H x (some z)) (hl : H l = some (.lst ys)) (e : But l H H') : IsWr K H' x (some z) := by
  obtain ⟨c, xs, b, ex, dx, t, h1, h2⟩ := h
  exact ⟨c, xs, b, ex, dx, t, e _ _ (fun q => by rw [q, hl] at h1; cases h1) h1, e _ _ (fun q => by rw [q, hl] at h2; cases h2) h2⟩
theorem isPh_off {x : V} {d : Ph} (h : IsPh K H x (some d)) (hl : H l = some (.lst ys)) (e : But l H H') : IsPh K H' x (some d) := by
  obtain ⟨⟨pa, ex, dx, t1, t2, t3, h, a1, a2, a3⟩, l9⟩ := h
  have sq : ∀ {b : Addr} {xs : List V}, SqT K H b xs → SqT K H' b xs := fun {b xs} h => h.off (fun o zs => ⟨by rw [hl]; simp, by rw [hl]; simp⟩) e
  exact ⟨⟨pa, ex, dx, t1, t2, t3, e _ _ (fun q => by rw [q, hl] at h; cases h) h, sq a1, sq a2, sq a3⟩, l9⟩
theorem stf_off {s : Addr} (h : Stf K H s) (hl : H l = some (.lst ys)) (n : s ≠ l) (e : But l H H') : Stf K H' s := by
  obtain ⟨ws, h1, h2⟩ := h
  refine ⟨ws, e _ _ n h1, h2.1, fun i x q => ?_⟩
  obtain ⟨r, er, p⟩ := h2.2 i x q
  obtain ⟨z, rfl⟩ := mem_some er
  exact ⟨_, er, isWr_off p hl e⟩
theorem txA_off {x : V} {cs : List Str} (h : TxA H x cs) (hl : H l = some (.lst ys)) (e : But l H H') : TxA H' x cs := by
  obtain ⟨q, ex, h⟩ := h
  exact ⟨q, ex, e _ _ (fun z => by rw [z, hl] at h; cases h) h⟩
theorem well_off {a : Addr} (h : Well H a) (n : a ≠ l) (e : But l H H') : Well H' a := let ⟨x, y, z, h⟩ := h; ⟨x, y, z, e _ _ n h⟩
end
/-- the list of Phases -/
def Pln (K : PySem.W.Frag) (G : Hp) (l : Addr) (ds : List Ph) : Prop := ∃ ps : List V, G l = some (.lst ps) ∧ Each (IsPh K) G ps (ds.map some)
theorem Pln.but {K : PySem.W.Frag} {G G' : Hp} {a l : Addr} {ds : List Ph} (h : Pln K G l ds) (w : Well G a) (n : l ≠ a) (b : But a G G') : Pln K G' l ds := let ⟨ps, e, g⟩ := h; ⟨ps, b _ _ n e, phs_but g w b⟩
theorem Pln.same {K : PySem.W.Frag} {G G' : Hp} {l : Addr} {ds : List Ph} (h : Pln K G l ds) (s : Same G G') : Pln K G' l ds := let ⟨ps, e, g⟩ := h; ⟨ps, s _ _ e, g.same fun _ _ h => h.same s⟩
theorem push_ph {K : PySem.W.Frag} {G : Hp} {l : Addr} {ps : List V} {ds : List Ph} {x : V} {d : Ph} (hl : G l = some (.lst ps)) (g : Each (IsPh K) G ps (ds.map some)) (h : IsPh K G x (some d)) : Pln K (upd G l (.lst (ps ++ [x]))) l (ds ++ [d]) := by
  refine ⟨_, upd_same, ?_⟩
  have off : But l G (upd G l (.lst (ps ++ [x]))) := But.upd
  rw [List.map_append]
  refine Each.snoc ⟨g.1, fun j y e => ?_⟩ (isPh_off h hl off)
  obtain ⟨r, er, q⟩ := g.2 j y e
  obtain ⟨d, rfl⟩ := mem_some er
  exact ⟨_, er, isPh_off q hl off⟩
def sd1 : List (List Str) := [[], ["more"]]
def sd2 : List (List Str) := [[], [], ["more"], ["old"]]
def en1 : List (List Str) := [[], ["drained"], ["drained"]]
def en2 : List (List Str) := [["done", "drained"], ["done"], []]
def kpL : List (List Str) := [["mild"], ["mild", "kept"], ["mild", "once"], ["mild"]]
theorem ph_ok : (∀ c ∈ sd1, ∀ e ∈ en1, phB "begin" ("old" :: c) ["mild"] e = true) ∧ (∀ c ∈ sd2, ∀ k ∈ kpL, ∀ e ∈ en2, phB "work" ("fresh" :: c) k e = true) ∧ phB "close" ["fresh"] ["right"] [] = true := by decide +kernel
def plan3 (c1 c2 k e1 e2 : List Str) : List Ph := [⟨"begin", "old" :: c1, false, ["mild"], e1⟩, ⟨"work", "fresh" :: c2, true, k, e2⟩, ⟨"close", ["fresh"], false, ["right"], []⟩]
theorem plan_ok : ∀ c1 ∈ sd1, ∀ c2 ∈ sd2, ∀ k ∈ kpL, ∀ e1 ∈ en1, ∀ e2 ∈ en2, badP ((plan3 c1 c2 k e1 e2).map some) ["old", "fresh", "more"] = none ∧ badP (((plan3 c1 c2 k e1 e2).drop 1).map some) ["old", "fresh", "more"] = none := by
  intro c1 h1 c2 h2 k hk e1 g1 e2 g2
  have q1 : ∀ c ∈ sd1, ((("old" : Str) :: c).all (["old", "fresh", "more"] : List Str).contains) = true := by decide +kernel
  have q2 : ∀ c ∈ sd2, ((("fresh" : Str) :: c).all (["old", "fresh", "more"] : List Str).contains) = true := by decide +kernel
  refine ⟨badP_iff.mpr ⟨(by decide +kernel : (["begin", "work", "close"] : List Str).Nodup), fun d hd => ?_⟩, badP_iff.mpr ⟨(by decide +kernel : (["work", "close"] : List Str).Nodup), fun d hd => ?_⟩⟩
  · rcases List.mem_cons.mp hd with rfl | hd
    · exact q1 c1 h1
    · rcases List.mem_cons.mp hd with rfl | hd
      · exact q2 c2 h2
      · rw [List.mem_singleton.mp hd]
        decide +kernel
  · rcases List.mem_cons.mp hd with rfl | hd
    · exact q2 c2 h2
    · rw [List.mem_singleton.mp hd]
      decide +kernel
/-! ways that are written out -/
def tW2 (r : Int × Int) : TE := tTup (tCons (tC (.int r.1)) (tCons (tC (.int r.2)) tNil))
def tWs (rs : List (Int × Int)) : TE := tTup (tAl ((rs.map fun r => (tW2 r, r)).map (·.1)))
def WyA (K : PySem.W.Frag) (G : Hp) (x : V) (rs : List (Int × Int)) : Prop := ∃ q bs, x = .ref q ∧ G q = some (.tup bs) ∧ Each (WyAt K) G bs rs
theorem WyAt.same2 {K : PySem.W.Frag} {G G' : Hp} {x : V} {r : Int × Int} (s : Same G G') (h : WyAt K G x r) : WyAt K G' x r := let ⟨p, e, h⟩ := h; ⟨p, e, h.same s⟩
theorem WyA.same {K : PySem.W.Frag} {G G' : Hp} {x : V} {rs : List (Int × Int)} (s : Same G G') (h : WyA K G x rs) : WyA K G' x rs := let ⟨q, bs, e, h, g⟩ := h; ⟨q, bs, e, s _ _ h, g.same fun _ _ z => z.same2 s⟩
theorem WyA.but {K : PySem.W.Frag} {a : Addr} {G G' : Hp} {x : V} {rs : List (Int × Int)} (h : WyA K G x rs) (w : Well G a) (b : But a G G') : WyA K G' x rs := let ⟨q, bs, e, h, g⟩ := h; ⟨q, bs, e, but_tup b w h, g.same fun _ _ z => wy_but z w b⟩
theorem run_wy {K : PySem.W.Frag} {σ : L2.St} {G : Hp} {R : VK} (r : Int × Int) (k : ∀ x G', Same G G' → WyAt K G' x r → R x G') : tW2 r σ G R :=
  ⟨(show 2 ≤ sizeLine by decide), fun p np => k _ _ (Same.new np) ⟨p, rfl, SqT.of upd_same⟩⟩
theorem run_ws {K : PySem.W.Frag} {σ : L2.St} {G : Hp} {R : VK} (rs : List (Int × Int)) (l : rs.length ≤ 1000) (k : ∀ x G', Same G G' → WyA K G' x rs → R x G') : tWs rs σ G R := by
  unfold tWs tTup
  refine run_al (p := WyAt K) (fun _ _ _ _ s h => h.same2 s) (rs.map fun r => (tW2 r, r)) (fun y hy G R h => ?_) (fun vs G' S e => ⟨?_, fun p np => ?_⟩)
  · obtain ⟨r, _, rfl⟩ := List.mem_map.mp hy
    exact run_wy (σ := σ) r h
  · have := e.1
    rw [List.length_map, List.length_map] at this
    have : 1000 < sizeLine := by decide
    omega
  · have Sp := Same.new (o := .tup vs) np
    refine k _ _ (S.trans Sp) ⟨p, vs, rfl, upd_same, ?_⟩
    rw [List.map_map] at e
    rw [show rs = rs.map ((fun x : TE × (Int × Int) => x.2) ∘ fun r => (tW2 r, r)) from (List.map_id rs).symm]
    exact e.same fun _ _ z => z.same2 Sp
def wyL : List (List (Int × Int)) := [[], [], [(1, 0)], [(2, 1)]]
def tWyL : TE := tLst (tAl ((wyL.map fun rs => (tWs rs, rs)).map (·.1)))
theorem run_wyL {K : PySem.W.Frag} {σ : L2.St} {H : Hp} {a : Addr} {R : VK} (e0 : σ[0]? = some (some (.ref a))) (w : Well H a) (k : ∀ x G rs, Well G a → But a H G → rs ∈ wyL → WyA K G x rs → R x G) : tOne K tWyL σ H R := by
  refine run_one (p := WyA K) (zs := wyL) e0 w (by decide) (by decide) (fun _ _ _ _ w b h => WyA.but h w b) (fun Q q => ?_) k
  refine run_lst (p := WyA K) (wyL.map fun rs => (tWs rs, rs)) (by decide) (fun _ _ _ _ s h => h.same s) (fun y hy G R h => ?_) (fun b vs G s nb hb e => q b vs G s nb hb e)
  obtain ⟨rs, hr, rfl⟩ := List.mem_map.mp hy
  exact run_ws rs ((by decide : ∀ rs ∈ wyL, rs.length ≤ 1000) rs hr) h
def is10 (r : Int × Int) : Bool := decide (r = (1, 0))
theorem wy_ok : ∀ rs ∈ wyL, (rs.filter is10).length ≤ 1000 ∧ rs.length ≤ 1 ∧ badY (rs.filter is10) 2 = none ∧ badY (rs.filter is10) 3 = none := by decide +kernel
theorem eq_10 (r : Int × Int) : Tr.eq (.tup [.int r.1, .int r.2]) (.tup [.int 1, .int 0]) = some (is10 r) := by
  obtain ⟨i, j⟩ := r
  have e : is10 (i, j) = (i == 1 && j == 0) := by
    unfold is10
    by_cases h : i = 1 <;> by_cases g : j = 0 <;> simp [h, g]
  have z : Tr.eq (.tup [.int i, .int j]) (.tup [.int 1, .int 0]) = some (i == 1 && (j == 0 && true)) := by rfl
  rw [e]
  refine z.trans ?_
  rw [Bool.and_true]
theorem dep_2 (i j : Int) : Tr.dep (.tup [.int i, .int j]) ≤ 60 := by
  have e : Tr.dep (.tup [.int i, .int j]) = Tr.dep (.tup [.int 0, .int 0]) := by rfl
  rw [e]
  decide +kernel
theorem zn_3 : badN ((["old", "fresh", "more"] : List Str).map some) = none := by decide +kernel
end K55

set_option maxRecDepth 100000
set_option maxHeartbeats 8000000
namespace K55
open PySem PySem.Spec PyProof.Rows L2 He VH RZ
/-! the careful Rollout that is drawn -/
abbrev sCar : Stmt := top 109
abbrev FnCar (K : PySem.W.Frag) (fd : FuncData) : Prop := FnP K "_law_careful" sCar (ga K "_law_careful") fd
theorem bCar {K : PySem.W.Frag} {fd : FuncData} (F : FnCar K fd) : Binds K fd ["_law_well_here"] [] := FunD.bindsN F fun _ _ _ _ _ _ us hl => match us, hl with | [_], _ => rfl
def spCar (K : PySem.W.Frag) : Sp := fun vs H Q _ => ∃ a : Addr, vs = [.ref a] ∧ Well H a ∧
  ∀ (d : Ro) (ws ps bs : List V) (fa c : Addr) (H' : Hp), Well H' a → But a H H' → Roll K H' c ws ps bs fa d → 2 ≤ d.ds.length → d.ds.length ≤ 3 → Q (.ref c) H'
theorem with_hp {T Pr : Hp → Prop} {G : Prop} (lst : ∀ H, Pr H → T H) (main : (∀ H, Pr H → T H) → G) : G := main lst
theorem with_pv {T Pr : Addr → Hp → Prop} {G : Prop} (lst : ∀ p H, Pr p H → T p H) (main : (∀ p H, Pr p H → T p H) → G) : G := main lst
section
variable {P : Program} {w : World} {K : PySem.W.Frag} {mg : Str → Option Value} {base : Heap} {f : Addr} {fd : FuncData}
abbrev nCar : List Str := ["_law_well_here", "_law_early", "_law_more", "_law_staff", "_law_checks", "_law_step", "_law_flags", "_law_work", "_law_sides", "_law_ends", "_law_kept", "_law_plan", "_law_ways", "_law_turn", "_law_way"]
theorem scCar : FnScope nCar ["_law_well_here"] (defScope sCar) := ⟨rfl, rfl, rfl, by decide +kernel, rfl, by decide +kernel, by decide +kernel⟩
theorem ok_car (F : FnP K "_law_careful" sCar f fd) (T : Txt K mg w) (fns : Fns K) : FnOk P w K mg base (L2.CX P w) 9 f fd ["_law_well_here"] (spCar K) := by
  obtain ⟨fdD, FD⟩ := fns.f_l_draw
  obtain ⟨fdO, FO⟩ := fns.f_l_one
  obtain ⟨fdI, FI⟩ := fns.f_Rollout_init
  obtain ⟨fdJ, FJ⟩ := fns.f_Phase_init
  obtain ⟨fdK, FK⟩ := fns.f_Fill_init
  obtain ⟨fdL, FL⟩ := fns.f_Writer_init
  obtain ⟨mR, kbR⟩ := kRoB FI
  obtain ⟨mF, kbF⟩ := kFlB FK
  obtain ⟨mA, kbA⟩ := kPhA FJ
  obtain ⟨mD, kbD⟩ := kPhD FJ
  obtain ⟨mE, kbE⟩ := kPhE FJ
  have GI : FnOk P w K mg base (L2.CX P w) 5 (ma K (ga K "Rollout") "__init__") fdI pRoI (spRoI K) := ok_roI FI T fns
  have GP : FnOk P w K mg base (L2.CX P w) 3 (ma K (ga K "Phase") "__init__") fdJ nPhI (spPhI K) := ok_phI FJ T fns
  have GF : FnOk P w K mg base (L2.CX P w) 5 (ma K (ga K "Fill") "__init__") fdK pFlI (spFlI K) := ok_flI FK T fns
  have GW : FnR P w K mg base (L2.CX P w) 7 (ma K (ga K "Writer") "__init__") (spWr K) := ok_wri FL T (pdefs fns) fns
  have GD : FnOk P w K mg base CX0 1 (ga K "_law_draw") fdD ["_law_well_here", "_law_much"] spDraw := ok_draw FD T.g_int
  have GO : FnOk P w K mg base CX0 2 (ga K "_law_one") fdO ["_law_well_here", "_law_some"] (spOne K) := ok_one FO FD T.m_l_draw T.g_int T.g_len
  refine F.ok scCar (fun vs H Q E h => ?_) (fun cdv A outer s H vs Q E hr h => ?_)
  · obtain ⟨_, rfl, _⟩ := h
    rfl
  refine ⟨_, pss_cons (ps_set (i := 1) scCar.nd rfl (Or.inl rfl) (pe_call GO (hr.mono (by decide)) (by rfl) T.m_l_one FO.kp (bOne FO) .nil pass0 (pa_cons (pv 0) (pa_cons (pe_lst (pa_cons (pe_tup (pa_cons pe_str (pa_cons pe_str (pa_cons pe_str (pa_cons (pe_tup pa_nil) pa_nil))))) (pa_cons (pe_tup (pa_cons pe_str (pa_cons pe_str (pa_cons pe_str (pa_cons (pe_tup pa_nil) pa_nil))))) (pa_cons (pe_tup (pa_cons pe_str (pa_cons pe_str (pa_cons pe_str (pa_cons (pe_tup pa_nil) pa_nil))))) pa_nil)))) pa_nil))))
    (pss_cons (ps_set (i := 2) scCar.nd rfl (Or.inl rfl) (pe_call GO (hr.mono (by decide)) (by rfl) T.m_l_one FO.kp (bOne FO) .nil pass0 (pa_cons (pv 0) (pa_cons (pe_lst (pa_cons (pe_tup (pa_cons pe_str (pa_cons pe_str pa_nil))) (pa_cons (pe_tup (pa_cons pe_str (pa_cons pe_str pa_nil))) (pa_cons (pe_tup (pa_cons pe_str (pa_cons (pe_tup pa_nil) pa_nil))) (pa_cons (pe_tup (pa_cons pe_str (pa_cons pe_str (pa_cons pe_str (pa_cons (pe_tup pa_nil) pa_nil))))) pa_nil))))) pa_nil))))
    (pss_cons (ps_set (i := 3) scCar.nd rfl (Or.inl rfl) (pe_lst (pa_cons (StX.pe_makeR T.mk_Writer GW hr (by rfl) T.m_Writer (pass_c (takes_of rfl rfl rfl rfl)) (pa_cons pe_str (pa_cons (pv 1) pa_nil))) (pa_cons (StX.pe_makeR T.mk_Writer GW hr (by rfl) T.m_Writer (pass_c (takes_of rfl rfl rfl rfl)) (pa_cons pe_str (pa_cons (pe_tup (pa_cons pe_str (pa_cons pe_str (pa_cons pe_str (pa_cons (pe_tup pa_nil) pa_nil))))) pa_nil))) (pa_cons (StX.pe_makeR T.mk_Writer GW hr (by rfl) T.m_Writer (pass_c (takes_of rfl rfl rfl rfl)) (pa_cons pe_str (pa_cons (pv 2) pa_nil))) pa_nil)))))
    (pss_cons (ps_if (pt_cmpR op_eq (pe_call GD (hr.mono (by decide)) (by rfl) T.m_l_draw FD.kp (bDrw FD) .nil pass0 (pa_cons (pv 0) (pa_cons pe_int pa_nil))) pe_int (nomark _)) (pss_one (ps_asg (StX.pe_makeR T.mk_Writer GW hr (by rfl) T.m_Writer (pass_c (takes_of rfl rfl rfl rfl)) (pa_cons pe_str (pa_cons (pe_tup (pa_cons pe_str pa_nil)) (pa_cons (pe_tup (pa_cons pe_str (pa_cons pe_str (pa_cons pe_str (pa_cons (pe_call GO (hr.mono (by decide)) (by rfl) T.m_l_one FO.kp (bOne FO) .nil pass0 (pa_cons (pv 0) (pa_cons (pe_lst (pa_cons (pe_tup pa_nil) (pa_cons (pe_tup (pa_cons pe_str pa_nil)) (pa_cons (pe_tup (pa_cons pe_str pa_nil)) pa_nil)))) pa_nil))) pa_nil))))) pa_nil)))) (pg_sub (pv 3) pe_int set_list))) pss_nil)
    (pss_cons (ps_set (i := 4) scCar.nd rfl (Or.inl rfl) (pe_call GO (hr.mono (by decide)) (by rfl) T.m_l_one FO.kp (bOne FO) .nil pass0 (pa_cons (pv 0) (pa_cons (pe_lst (pa_cons (pe_tup pa_nil) (pa_cons (pe_tup (pa_cons pe_str pa_nil)) (pa_cons (pe_tup (pa_cons pe_str pa_nil)) (pa_cons (pe_tup (pa_cons pe_str (pa_cons pe_str pa_nil))) (pa_cons (pe_tup (pa_cons pe_str pa_nil)) pa_nil)))))) pa_nil))))
    (pss_cons (ps_set (i := 5) scCar.nd rfl (Or.inl rfl) (pe_tup (pa_cons pe_str (pa_cons (pe_call GO (hr.mono (by decide)) (by rfl) T.m_l_one FO.kp (bOne FO) .nil pass0 (pa_cons (pv 0) (pa_cons (pe_op op_cat (pe_op op_rep (pe_lst (pa_cons pe_str pa_nil)) pe_int) (pe_lst (pa_cons pe_str pa_nil))) pa_nil))) (pa_cons (pe_call GO (hr.mono (by decide)) (by rfl) T.m_l_one FO.kp (bOne FO) .nil pass0 (pa_cons (pv 0) (pa_cons (pe_lst (pa_cons pe_str (pa_cons pe_str pa_nil))) pa_nil))) (pa_cons (pv 4) pa_nil))))))
    (pss_cons (ps_if (pt_cmpR op_eq (pe_call GD (hr.mono (by decide)) (by rfl) T.m_l_draw FD.kp (bDrw FD) .nil pass0 (pa_cons (pv 0) (pa_cons pe_int pa_nil))) pe_int (nomark _)) (pss_one (ps_set (i := 5) scCar.nd rfl (Or.inl rfl) (pe_tup (pa_cons pe_str (pa_cons pe_str (pa_cons (pe_tup pa_nil) pa_nil)))))) pss_nil)
    (pss_cons (ps_setLc (i := 6) (own := [("_law_turn", 13)]) (g := gName 13) (tt := tYes) (te := tOp rEq (tCall spDraw [] E0 (tCons (tVar 0) (tCons (tC (.int 3)) tNil))) (tC (.int 0))) rfl scCar.nd rfl rfl (sw_true rfl rfl rfl (by decide +kernel)) (pi_range1 (by rfl) T.g_range (pa_cons pe_int pa_nil)) (blkOk_by (N := nCar) (sc := defScope sCar) (by decide +kernel)) (fun _ _ _ _ _ => pg_name (i := 13) scCar.nd rfl (Or.inl rfl)) (fun _ _ _ _ _ => pts_nil) (fun _ _ _ _ _ => pe_cmpR op_eq (pe_call GD (hr.mono (by decide)) (by rfl) T.m_l_draw FD.kp (bDrw FD) .nil pass0 (pa_cons (pv 0) (pa_cons pe_int pa_nil))) pe_int (nomark _)))
    (pss_cons (ps_set (i := 7) scCar.nd rfl (Or.inl rfl) (pe_makeK (n := 1) (ks := ["batch", "save", "lock", "only_missing", "falls"]) T.mk_Fill GF (hr.mono (by decide)) (by rfl) T.m_Fill kbF (pass_c (takes_of rfl rfl rfl rfl)) (pa_cons (pv 5) pa_nil) (pk_cons (pe_op op_add pe_int (pe_call GD (hr.mono (by decide)) (by rfl) T.m_l_draw FD.kp (bDrw FD) .nil pass0 (pa_cons (pv 0) (pa_cons pe_int pa_nil)))) (pk_cons (pe_call GO (hr.mono (by decide)) (by rfl) T.m_l_one FO.kp (bOne FO) .nil pass0 (pa_cons (pv 0) (pa_cons (pe_op op_cat (pe_op op_rep (pe_lst (pa_cons pe_str pa_nil)) pe_int) (pe_lst (pa_cons pe_str pa_nil))) pa_nil))) (pk_cons (pe_ix ix_list (pv 6) pe_int (fun _ _ => rfl)) (pk_cons (pe_ix ix_list (pv 6) pe_int (fun _ _ => rfl)) (pk_cons (pe_ix ix_list (pv 6) pe_int (fun _ _ => rfl)) pk_nil)))))))
    (pss_cons (ps_set (i := 8) scCar.nd rfl (Or.inl rfl) (pe_lst (pa_cons (pe_call GO (hr.mono (by decide)) (by rfl) T.m_l_one FO.kp (bOne FO) .nil pass0 (pa_cons (pv 0) (pa_cons (pe_lst (pa_cons (pe_tup pa_nil) (pa_cons (pe_tup (pa_cons pe_str pa_nil)) pa_nil))) pa_nil))) (pa_cons (pe_call GO (hr.mono (by decide)) (by rfl) T.m_l_one FO.kp (bOne FO) .nil pass0 (pa_cons (pv 0) (pa_cons (pe_lst (pa_cons (pe_tup pa_nil) (pa_cons (pe_tup pa_nil) (pa_cons (pe_tup (pa_cons pe_str pa_nil)) (pa_cons (pe_tup (pa_cons pe_str pa_nil)) pa_nil))))) pa_nil))) pa_nil))))
    (pss_cons (ps_set (i := 9) scCar.nd rfl (Or.inl rfl) (pe_lst (pa_cons (pe_call GO (hr.mono (by decide)) (by rfl) T.m_l_one FO.kp (bOne FO) .nil pass0 (pa_cons (pv 0) (pa_cons (pe_lst (pa_cons (pe_tup pa_nil) (pa_cons (pe_tup (pa_cons pe_str pa_nil)) (pa_cons (pe_tup (pa_cons pe_str pa_nil)) pa_nil)))) pa_nil))) (pa_cons (pe_call GO (hr.mono (by decide)) (by rfl) T.m_l_one FO.kp (bOne FO) .nil pass0 (pa_cons (pv 0) (pa_cons (pe_lst (pa_cons (pe_tup (pa_cons pe_str (pa_cons pe_str pa_nil))) (pa_cons (pe_tup (pa_cons pe_str pa_nil)) (pa_cons (pe_tup pa_nil) pa_nil)))) pa_nil))) pa_nil))))
    (pss_cons (ps_set (i := 10) scCar.nd rfl (Or.inl rfl) (pe_call GO (hr.mono (by decide)) (by rfl) T.m_l_one FO.kp (bOne FO) .nil pass0 (pa_cons (pv 0) (pa_cons (pe_lst (pa_cons (pe_tup (pa_cons pe_str pa_nil)) (pa_cons (pe_tup (pa_cons pe_str (pa_cons pe_str pa_nil))) (pa_cons (pe_tup (pa_cons pe_str (pa_cons pe_str pa_nil))) (pa_cons (pe_tup (pa_cons pe_str pa_nil)) pa_nil))))) pa_nil))))
    (pss_cons (ps_set (i := 11) scCar.nd rfl (Or.inl rfl) (pe_lst (pa_cons (pe_makeK (n := 1) (ks := ["writers", "promises", "waits"]) T.mk_Phase GP (hr.mono (by decide)) (by rfl) T.m_Phase kbD (pass_c (takes_of rfl rfl rfl rfl)) (pa_cons pe_str pa_nil) (pk_cons (pe_op op_catZ (pe_tup (pa_cons pe_str pa_nil)) (pe_ix ix_list (pv 8) pe_int (fun _ _ => rfl))) (pk_cons (pe_tup (pa_cons pe_str pa_nil)) (pk_cons (pe_ix ix_list (pv 9) pe_int (fun _ _ => rfl)) pk_nil)))) pa_nil)))
    (pss_cons (ps_expr (pe_bm PySem.F.plainAttrs_list PySem.F.slot_list_append PySem.F.type_list_append mt_append (pv 11) (pa_cons (pe_makeK (n := 1) (ks := ["writers", "fills", "promises", "waits"]) T.mk_Phase GP (hr.mono (by decide)) (by rfl) T.m_Phase kbA (pass_c (takes_of rfl rfl rfl rfl)) (pa_cons pe_str pa_nil) (pk_cons (pe_op op_catZ (pe_tup (pa_cons pe_str pa_nil)) (pe_ix ix_list (pv 8) pe_int (fun _ _ => rfl))) (pk_cons pe_bl (pk_cons (pv 10) (pk_cons (pe_ix ix_list (pv 9) pe_int (fun _ _ => rfl)) pk_nil))))) pa_nil)))
    (pss_cons (ps_expr (pe_bm PySem.F.plainAttrs_list PySem.F.slot_list_append PySem.F.type_list_append mt_append (pv 11) (pa_cons (pe_makeK (n := 1) (ks := ["writers", "promises"]) T.mk_Phase GP (hr.mono (by decide)) (by rfl) T.m_Phase kbE (pass_c (takes_of rfl rfl rfl rfl)) (pa_cons pe_str pa_nil) (pk_cons (pe_tup (pa_cons pe_str pa_nil)) (pk_cons (pe_tup (pa_cons pe_str pa_nil)) pk_nil))) pa_nil)))
    (pss_cons (ps_set (i := 12) scCar.nd rfl (Or.inl rfl) (pe_call GO (hr.mono (by decide)) (by rfl) T.m_l_one FO.kp (bOne FO) .nil pass0 (pa_cons (pv 0) (pa_cons (pe_lst (pa_cons (pe_tup pa_nil) (pa_cons (pe_tup pa_nil) (pa_cons (pe_tup (pa_cons (pe_tup (pa_cons pe_int (pa_cons pe_int pa_nil))) pa_nil)) (pa_cons (pe_tup (pa_cons (pe_tup (pa_cons pe_int (pa_cons pe_int pa_nil))) pa_nil)) pa_nil))))) pa_nil))))
    (pss_one (ps_ret (pe_makeK (n := 3) (ks := ["hands", "back"]) T.mk_Rollout GI (hr.mono (by decide)) (by rfl) T.m_Rollout kbR (pass_c (takes_of rfl rfl rfl rfl)) (pa_cons (pv 3) (pa_cons (pv 7) (pa_cons (pe_slice sl_list (pv 11) (po_some (pe_call GD (hr.mono (by decide)) (by rfl) T.m_l_draw FD.kp (bDrw FD) .nil pass0 (pa_cons (pv 0) (pa_cons pe_int pa_nil)))) po_none) pa_nil))) (pk_cons (pe_call GD (hr.mono (by decide)) (by rfl) T.m_l_draw FD.kp (bDrw FD) .nil pass0 (pa_cons (pv 0) (pa_cons pe_int pa_nil))) (pk_cons (pe_lc (own := [("_law_way", 14)]) (g := gName 14) (tt := tTest (tOp (rEqT K) (tVar 14) (tTup (tCons (tC (.int 1)) (tCons (tC (.int 0)) tNil))))) (te := tVar 14) rfl scCar.nd (pi_tup (pv 12)) (blkOk_by (N := nCar) (sc := defScope sCar) (by decide +kernel)) (fun _ _ _ _ _ => pg_name (i := 14) scCar.nd rfl (Or.inl rfl)) (fun _ _ _ _ _ => pts_one (pt_cmpR (op_eqT hr.units) (pv 14) (pe_tup (pa_cons pe_int (pa_cons pe_int pa_nil))) (nomark _))) (fun _ _ _ _ _ => pv 14)) pk_nil)))))))))))))))))))), ?_⟩
  obtain ⟨a, rfl, wl, k⟩ := h
  have okL := ok_lists
  -- early, more
  refine run_stms earlyL rfl wl (by decide +kernel) fun p1 G1 s1 w1 b1 m1 h1 => ?_
  refine run_stms moreL rfl w1 (by decide +kernel) fun p2 G2 s2 w2 b2 m2 h2 => ?_
  have h1 := but_st b2 w1 h1
  have B := b1.trans b2
  clear b1 b2 w1
  -- staff
  refine ⟨_, rfl, ?_⟩
  dsimp only [tNil]
  refine fun c1 d1 n1 e1 f1 => wr_one (by decide +kernel) (okL.1 s1 m1) h1 n1 e1 f1 fun G3 S3 i1 => ?_
  refine ⟨(show 0 ≤ sizeLine by decide), fun q3 nq3 => ⟨(show 4 ≤ sizeLine by decide), fun p3 np3 => ?_⟩⟩
  obtain ⟨G4, S4, h4, e4⟩ : ∃ G4, Same G3 G4 ∧ StAt G4 p3 freshS ∧ G4 = upd (upd G3 q3 (.tup [])) p3 (.tup [.str "set", .str "input", .str "now", .ref q3]) := by
    have Sa := Same.new (o := .tup []) nq3
    have Sb := Same.new (o := .tup [.str "set", .str "input", .str "now", .ref q3]) np3
    refine ⟨_, Sa.trans Sb, ?_, rfl⟩
    unfold StAt
    rw [if_neg (show ¬ (freshS.w = "insert") by decide)]
    exact ⟨q3, upd_same, Sb _ _ upd_same⟩
  dsimp only [tNil]
  rw [← e4]
  clear e4
  refine fun c2 d2 n2 e2 f2 => wr_one (by decide +kernel) okL.2.2 h4 n2 e2 f2 fun G5 S5 i2 => ?_
  refine ⟨_, rfl, ?_⟩
  dsimp only [tNil]
  refine fun c3 d3 n3 e3 f3 => wr_one (by decide +kernel) (okL.2.1 s2 m2) (h2.same fun _ _ z => S5 _ _ (S4 _ _ (S3 _ _ z))) n3 e3 f3 fun G6 S6 i3 => ⟨(show 3 ≤ sizeLine by decide), fun l nl => ?_⟩
  have S36 : Same G2 G6 := S3.trans (S4.trans (S5.trans S6))
  have w6 := w2.same S36
  have nla := w6.new nl
  have S7 := Same.new (o := .lst [.ref c1, .ref c2, .ref c3]) nl
  have hl : upd G6 l (.lst [.ref c1, .ref c2, .ref c3]) l = some (.lst [.ref c1, .ref c2, .ref c3]) := upd_same
  have BG6 := B.trans (But.of S36)
  have B := B.trans (But.of (S36.trans S7))
  have ew : Each (IsWr K) (upd G6 l (.lst [.ref c1, .ref c2, .ref c3])) [.ref c1, .ref c2, .ref c3] ((["old", "fresh", "more"] : List Str).map some) :=
    each3 ((i1.same (S4.trans (S5.trans S6))).same S7) ((i2.same S6).same S7) (i3.same S7)
  have w7 := w6.same S7
  generalize upd G6 l (.lst [.ref c1, .ref c2, .ref c3]) = G7 at hl B ew w7 ⊢
  have nHl : H l = none := K55.But.none BG6 nla nl
  have hl' : ∃ ws : List V, G7 l = some (.lst ws) ∧ Each (IsWr K) G7 ws ((["old", "fresh", "more"] : List Str).map some) := ⟨_, hl, ew⟩
  clear BG6 S36 S3 S4 S5 S6 S7 i1 i2 i3 n1 n2 n3 nl h1 h2 h4 w2 w6 m1 m2 wl
  -- staff[2]
  apply with_hp (Pr := fun G => Well G a ∧ But a H G ∧ ∃ ws : List V, G l = some (.lst ws) ∧ Each (IsWr K) G ws ((["old", "fresh", "more"] : List Str).map some))
  case main =>
    intro last
    refine ⟨_, rfl, a, 4, rfl, w7, by decide, by decide, fun G8 d d0 d1 w8 b8 => ⟨rfl, _, rfl, ?_⟩⟩
    have B8 := B.trans b8
    have hl8 := b8 _ _ nla hl
    have ew8 := wrs_but ew w7 b8
    refine ite2 (fun _ => ?_) (fun _ => ?_)
    · refine ⟨(show 1 ≤ sizeLine by decide), fun r nr => ?_⟩
      have Sr := Same.new (o := .tup [.str "read"]) nr
      have hr8 : upd G8 r (.tup [.str "read"]) r = some (.tup [.str "read"]) := upd_same
      have w9 := w8.same Sr
      have B9 := B8.trans (But.of Sr)
      have hl9 := Sr _ _ hl8
      have ew9 := ew8.same (H' := upd G8 r (.tup [.str "read"])) fun _ _ h => h.same Sr
      generalize upd G8 r (.tup [.str "read"]) = G9 at hr8 w9 B9 hl9 ew9 ⊢
      refine run_opts [[], ["same old"], ["missing"]] rfl w9 (by decide +kernel) fun x10 G10 cs w10 b10 m10 h10 => ?_
      obtain ⟨q, rfl, h10⟩ := h10
      have hr10 := but_tup b10 w9 hr8
      have ew10 := wrs_but ew9 w9 b10
      have hl10 := b10 _ _ nla hl9
      have B10 := B9.trans b10
      refine ⟨(show 4 ≤ sizeLine by decide), fun p np => ?_⟩
      have Sp := Same.new (o := .tup [.str "set", .str "keep", .str "read", .ref q]) np
      have st : StAt (upd G10 p (.tup [.str "set", .str "keep", .str "read", .ref q])) p ⟨"set", ["keep", "read"], cs⟩ := by
        unfold StAt
        rw [if_neg (show ¬ (("set" : Str) = "insert") by decide)]
        exact ⟨q, upd_same, Sp _ _ h10⟩
      have hr11 := Sp _ _ hr10
      have w11 := w10.same Sp
      have B11 := B10.trans (But.of Sp)
      have hl11 := Sp _ _ hl10
      have ew11 := ew10.same (H' := upd G10 p (.tup [.str "set", .str "keep", .str "read", .ref q])) fun _ _ h => h.same Sp
      generalize upd G10 p (.tup [.str "set", .str "keep", .str "read", .ref q]) = G11 at st hr11 w11 B11 hl11 ew11 ⊢
      have o2 := ok_two cs m10
      rw [Bool.and_eq_true] at o2
      refine fun c d n e g => mk_wrS (xs := [.ref r, .ref p]) (ds := [.read, .st ⟨"set", ["keep", "read"], cs⟩]) (by decide +kernel) (.cons (rd_at hr11) (.cons ⟨p, rfl, st, o2.1⟩ .nil)) (by simp) (by simp) (Option.isNone_iff_eq_none.mp o2.2) n e g fun G12 S12 i12 => ?_
      have hl12 := S12 _ _ hl11
      have w12 := w11.same S12
      have ew12 := ew11.same (H' := G12) fun _ _ h => h.same S12
      refine ⟨_, rfl, l, _, 2, _, rfl, rfl, hl12, by rfl, ?_⟩
      have off : But l G12 (upd G12 l (.lst ([V.ref c1, V.ref c2, V.ref c3].set 2 (.ref c)))) := But.upd
      have stay : ∀ {x : V} {z : Str}, IsWr K G12 x (some z) → IsWr K (upd G12 l (.lst ([V.ref c1, V.ref c2, V.ref c3].set 2 (.ref c)))) x (some z) := fun {x z} ⟨c', xs', b', e, dx, t, h1, h2⟩ => ⟨c', xs', b', e, dx, t, off _ _ (fun q => by rw [q, hl12] at h1; cases h1) h1, off _ _ (fun q => by rw [q, hl12] at h2; cases h2) h2⟩
      refine last _ ⟨?_, ?_, _, upd_same, ?_⟩
      · obtain ⟨x, y, v, e⟩ := w12
        exact ⟨x, y, v, by rw [upd_ne (Ne.symm nla)]; exact e⟩
      · exact K55.But.keep (B11.trans (But.of S12)) nHl
      · refine each3 (stay ?_) (stay ?_) (stay i12)
        · obtain ⟨z, e, h⟩ := ew12.2 0 _ rfl
          cases e
          exact h
        · obtain ⟨z, e, h⟩ := ew12.2 1 _ rfl
          cases e
          exact h
    · exact last G8 ⟨w8, B8, _, hl8, ew8⟩
  case lst =>
    intro G9 g9
    obtain ⟨w9, b9, ws9, hl9, ew9⟩ := g9
    have sf9 : Stf K G9 l := ⟨ws9, hl9, ew9⟩
    clear hl9 ew9 hl ew hl' w7 B
    -- checks, step
    refine run_opts cksL rfl w9 (by decide +kernel) fun x10 G10 cs w10 b10 m10 h10 => ?_
    obtain ⟨q, rfl, h10⟩ := h10
    have sf10 := sf9.but w9 nla b10
    have B10 := b9.trans b10
    clear sf9 w9 b9 b10
    refine run_rep rfl w10 fun u G11 w11 b11 mu => ?_
    refine run_txs ["read", "now"] rfl w11 (by decide +kernel) fun v G12 w12 b12 mv => ?_
    have b02 := b11.trans b12
    have h12 := but_tup b02 w10 h10
    have sf12 := sf10.but w10 nla b02
    have B12 := B10.trans b02
    clear sf10 w10 B10 b02 b11 b12 w11 h10
    refine ⟨_, rfl, (show 4 ≤ sizeLine by decide), fun p np => ?_⟩
    have Sp := Same.new (o := .tup [.str "set", .str u, .str v, .ref q]) np
    have st : StAt (upd G12 p (.tup [.str "set", .str u, .str v, .ref q])) p ⟨"set", [u, v], cs⟩ := by
      unfold StAt
      rw [if_neg (show ¬ (("set" : Str) = "insert") by decide)]
      exact ⟨q, upd_same, Sp _ _ h12⟩
    have w13 := w12.same Sp
    have sf13 := sf12.but w12 nla (But.of Sp)
    have B13 := B12.trans (But.of Sp)
    have ok := ok_fil u mu v mv cs m10
    rw [Bool.and_eq_true] at ok
    generalize upd G12 p (.tup [.str "set", .str u, .str v, .ref q]) = G13 at st w13 sf13 B13 ⊢
    clear Sp w12 sf12 B12 h12 np mu mv m10
    apply with_pv (Pr := fun p G => Well G a ∧ But a H G ∧ Stf K G l ∧ ∃ s : Stp, StAt G p s ∧ s.ok = true ∧ s.fill = true)
    case main =>
      intro last
      refine ⟨_, rfl, a, 8, rfl, w13, by decide, by decide, fun G14 d d0 d1 w14 b14 => ⟨rfl, _, rfl, ?_⟩⟩
      have B14 := B13.trans b14
      have sf14 := sf13.but w13 nla b14
      refine ite2 (fun _ => ?_) (fun _ => ?_)
      · refine ⟨(show 0 ≤ sizeLine by decide), fun r nr => ⟨(show 3 ≤ sizeLine by decide), fun p2 np2 => ?_⟩⟩
        have Sa := Same.new (o := .tup []) nr
        have Sb := Same.new (o := .tup [.str "put", .str "now", .ref r]) np2
        have S := Sa.trans Sb
        have op := ok_put
        rw [Bool.and_eq_true] at op
        refine last p2 _ ⟨w14.same S, B14.trans (But.of S), sf14.but w14 nla (But.of S), ⟨"put", ["now"], []⟩, ?_, op.1, op.2⟩
        unfold StAt
        rw [if_neg (show ¬ (("put" : Str) = "insert") by decide)]
        exact ⟨r, upd_same, Sb _ _ upd_same⟩
      · exact last p G14 ⟨w14, B14, sf14, _, but_st b14 w13 st, ok.1, ok.2⟩
    case lst =>
      intro p5 G15 g15
      obtain ⟨w15, B15, sf15, s, st15, sok, sfl⟩ := g15
      clear st ok w13 sf13 B13
      -- flags
      refine ⟨3, rfl, by decide, by decide, fun D nD => ?_⟩
      have na := w15.new nD
      have S0 := Same.new (o := .lst []) nD
      refine lc_range (lo := 0) (n := 3) (fun i G => Well G a ∧ But a G15 G ∧ ∃ bs : List Bool, bs.length = i ∧ G D = some (.lst (bs.map V.bl))) ⟨w15.same S0, But.of S0, [], rfl, upd_same⟩ (fun i G li g => ?_) (fun G g => ?_)
      · obtain ⟨wG, bG, bs, lb, hD⟩ := g
        refine ⟨rfl, _, rfl, a, 3, rfl, wG, by decide, by decide, fun G2 d d0 d1 w2 b2 => ⟨rfl, ?_⟩⟩
        have hD2 := b2 _ _ na hD
        refine ⟨_, hD2, ?_, ?_, But.sub bG nD b2, bs ++ [decide (V.int d = V.int 0)], by rw [List.length_append, lb]; rfl, ?_⟩
        · rw [List.length_map, lb]
          have : 1000 < sizeLine := by decide
          omega
        · obtain ⟨x, y, zz, e⟩ := w2
          exact ⟨x, y, zz, by rw [upd_ne (Ne.symm na)]; exact e⟩
        · rw [upd_same, List.map_append]
          rfl
      · obtain ⟨wG, bG, bs, lb, hD⟩ := g
        have st16 := but_st bG w15 st15
        have sf16 := sf15.but w15 nla bG
        have B16 := B15.trans bG
        clear bG w15 st15 sf15 B15 S0 nD
        match bs, lb with
        | [f1, f2, f3], _ =>
        have hD : G D = some (.lst [.bl f1, .bl f2, .bl f3]) := hD
        -- work
        refine ⟨_, rfl, _, rfl, a, 3, rfl, wG, by decide, by decide, fun G8 dd e0 e1 w8 b8 => ⟨_, _, rfl, rfl, ?_⟩⟩
        have hD8 := b8 _ _ na hD
        have st8 := but_st b8 wG st16
        have sf8 := sf16.but wG nla b8
        have B8 := B16.trans b8
        clear b8 wG st16 sf16 B16 hD
        refine run_rep rfl w8 fun z G9 w9 b9 mz => ?_
        have hD9 := b9 _ _ na hD8
        have st9 := but_st b9 w8 st8
        have sf9 := sf8.but w8 nla b9
        have B9 := B8.trans b9
        clear b9 w8 st8 sf8 B8 hD8
        refine ⟨_, rfl, D, _, 0, _, rfl, rfl, SqL.of hD9, rfl, _, rfl, D, _, 1, _, rfl, rfl, SqL.of hD9, rfl, _, rfl, D, _, 2, _, rfl, rfl, SqL.of hD9, rfl, rfl, rfl, fun x dx nx nd ne => ?_⟩
        have T1 := Same.new (o := .own x) nd
        have nx1 : upd G9 dx (.own x) x = none := by rw [upd_ne (Ne.symm ne)]; exact nx
        have T2 := T1.trans (Same.new (o := .ins (ga K "Fill") dx []) nx1)
        refine ⟨x, dx, p5, s, ⟨1 + dd, z, f1, f2, f3, false⟩, rfl, upd_same, st9.same fun _ _ q => T2 _ _ q, sok, sfl, ⟨by show 1 ≤ 1 + dd; omega, by show 1 + dd ≤ 100; omega, by simpa using mz⟩, fun H' Bx fl => ⟨rfl, ?_⟩⟩
        have T3 : Same G9 H' := But.new ((But.of T1).trans (But.upd.trans Bx)) nx
        have fk : FlK K H' x := ⟨p5, _, fl, (st9.same fun _ _ q => T3 _ _ q).pl⟩
        have w10 := w9.same T3
        have sf10 := sf9.but w9 nla (But.of T3)
        have B10 := B9.trans (But.of T3)
        clear T1 T2 T3 nx1 nx nd ne Bx fl st9 sf9 B9 w9 hD9 sok sfl
        -- sides
        refine run_opts sd1 rfl w10 (by decide +kernel) fun x1 Ga c1 wa ba m1 h1 => ?_
        have sf := sf10.but w10 nla ba
        have fk := flk_but fk w10 ba
        have B := B10.trans ba
        clear ba w10 sf10 B10
        refine run_opts sd2 rfl wa (by decide +kernel) fun x2 Gb c2 wb bb m2 h2 => ⟨(show 2 ≤ sizeLine by decide), fun ls nls => ?_⟩
        have Sl := Same.new (o := .lst [x1, x2]) nls
        have bl := bb.trans (But.of Sl)
        have sf := sf.but wa nla bl
        have fk := flk_but fk wa bl
        have h1 := h1.but wa bl
        have h2 := h2.same Sl
        have B := B.trans bl
        have nlsa := wb.new nls
        have hls : upd Gb ls (.lst [x1, x2]) ls = some (.lst [x1, x2]) := upd_same
        have wc := wb.same Sl
        generalize upd Gb ls (.lst [x1, x2]) = Gc at sf fk h1 h2 B hls wc ⊢
        clear Sl bl bb wa wb nls
        -- ends
        refine run_opts en1 rfl wc (by decide +kernel) fun y1 Gd e1 wd bd q1 g1 => ?_
        refine run_opts en2 rfl wd (by decide +kernel) fun y2 Ge e2 we be q2 g2 => ⟨(show 2 ≤ sizeLine by decide), fun le nle => ?_⟩
        have Sl := Same.new (o := .lst [y1, y2]) nle
        have b2 := be.trans (But.of Sl)
        have b3 := bd.trans b2
        have sf := sf.but wc nla b3
        have fk := flk_but fk wc b3
        have h1 := h1.but wc b3
        have h2 := h2.but wc b3
        have hls := b3 _ _ nlsa hls
        have g1 := g1.but wd b2
        have g2 := g2.same Sl
        have B := B.trans b3
        have nlea := we.new nle
        have hle : upd Ge le (.lst [y1, y2]) le = some (.lst [y1, y2]) := upd_same
        have wf := we.same Sl
        generalize upd Ge le (.lst [y1, y2]) = Gf at sf fk h1 h2 hls g1 g2 B hle wf ⊢
        clear Sl b2 b3 bd be wc wd we nle
        -- kept
        refine run_opts kpL rfl wf (by decide +kernel) fun z1 Gg kp wg bg r1 g3 => ?_
        have sf := sf.but wf nla bg
        have fk := flk_but fk wf bg
        have h1 := h1.but wf bg
        have h2 := h2.but wf bg
        have hls := bg _ _ nlsa hls
        have g1 := g1.but wf bg
        have g2 := g2.but wf bg
        have hle := bg _ _ nlea hle
        have B := B.trans bg
        clear bg wf
        obtain ⟨u1, rfl, k1⟩ := h1
        obtain ⟨u2, rfl, k2⟩ := h2
        obtain ⟨v1, rfl, j1⟩ := g1
        obtain ⟨v2, rfl, j2⟩ := g2
        obtain ⟨v3, rfl, j3⟩ := g3
        -- plan
        refine ⟨(show 1 ≤ sizeLine by decide), fun q nq => ⟨_, rfl, ls, [.ref u1, .ref u2], 0, .ref u1, rfl, rfl, ?_⟩⟩
        have Sq := Same.new (o := .tup [.str "old"]) nq
        refine ⟨SqL.of (Sq _ _ hls), rfl, q, u1, [.str "old"], c1.map V.str, rfl, rfl, SqT.of upd_same, SqT.of (Sq _ _ k1), ?_, fun q3 Gh Sh hq3 => ?_⟩
        · have : ∀ c ∈ sd1, ([V.str "old"] : List V).length + (c.map V.str).length ≤ 10 := by decide +kernel
          exact Nat.le_trans (this c1 m1) (by decide)
        have S1 := Sq.trans Sh
        refine ⟨(show 1 ≤ sizeLine by decide), fun q4 nq4 => ⟨_, rfl, le, [.ref v1, .ref v2], 0, .ref v1, rfl, rfl, ?_⟩⟩
        have S4 := Same.new (o := .tup [.str "mild"]) nq4
        have S2 := S1.trans S4
        refine ⟨SqL.of (S2 _ _ hle), rfl, rfl, rfl, fun xa da na1 na2 na3 => mk_ph (z := "begin") (ws := "old" :: c1) (ps := ["mild"]) (qs := e1) (ph_ok.1 c1 m1 e1 q1) (hq3.same S4) (SqT.of upd_same) (SqT.of (S2 _ _ j1)) na1 na2 na3 fun Gi Si ia => ⟨(show 1 ≤ sizeLine by decide), fun lp nlp => ?_⟩⟩
        have S3 := S2.trans Si
        have wi := wg.same S3
        have nlpa := wi.new nlp
        have Sp := Same.new (o := .lst [.ref xa]) nlp
        have S := S3.trans Sp
        have nHp : H lp = none := K55.But.none (B.trans (But.of S3)) nlpa nlp
        have nlpl : l ≠ lp := by
          obtain ⟨_, e, _⟩ := sf
          exact ne_of_none (S3 _ _ e) nlp
        have nlpls : ls ≠ lp := ne_of_none (S3 _ _ hls) nlp
        have nlple : le ≠ lp := ne_of_none (S3 _ _ hle) nlp
        have hlp : upd Gi lp (.lst [.ref xa]) lp = some (.lst [.ref xa]) := upd_same
        have pl : Each (IsPh K) (upd Gi lp (.lst [.ref xa])) [.ref xa] ((([⟨"begin", "old" :: c1, false, ["mild"], e1⟩] : List Ph)).map some) := each1 (ia.same Sp)
        have sf := sf.but wg nla (But.of S)
        have fk := flk_but fk wg (But.of S)
        have k2 := S _ _ k2
        have j2 := S _ _ j2
        have j3 := S _ _ j3
        have hls := S _ _ hls
        have hle := S _ _ hle
        have B := B.trans (But.of S)
        have wj := wi.same Sp
        generalize upd Gi lp (.lst [.ref xa]) = Gj at hlp pl sf fk k2 j2 j3 hls hle B wj ⊢
        clear S S1 S2 S3 S4 Sp Sq Sh Si wi wg ia na1 na2 na3 nlp nq nq4 hq3 k1 j1
        -- the second Phase
        refine ⟨_, rfl, .inl ⟨rfl, _, SqL.of hlp⟩, ?_⟩
        refine ⟨(show 1 ≤ sizeLine by decide), fun q nq => ⟨_, rfl, ls, [.ref u1, .ref u2], 1, .ref u2, rfl, rfl, ?_⟩⟩
        have Sq := Same.new (o := .tup [.str "fresh"]) nq
        refine ⟨SqL.of (Sq _ _ hls), rfl, q, u2, [.str "fresh"], c2.map V.str, rfl, rfl, SqT.of upd_same, SqT.of (Sq _ _ k2), ?_, fun q3 Gh Sh hq3 => ?_⟩
        · have : ∀ c ∈ sd2, ([V.str "fresh"] : List V).length + (c.map V.str).length ≤ 10 := by decide +kernel
          exact Nat.le_trans (this c2 m2) (by decide)
        have S1 := Sq.trans Sh
        refine ⟨_, rfl, _, rfl, le, [.ref v1, .ref v2], 1, .ref v2, rfl, rfl, ?_⟩
        refine ⟨SqL.of (S1 _ _ hle), rfl, rfl, rfl, fun xb da na1 na2 na3 => mk_ph (z := "work") (ws := "fresh" :: c2) (ps := kp) (qs := e2) (ph_ok.2.1 c2 m2 kp r1 e2 q2) hq3 (SqT.of (S1 _ _ j3)) (SqT.of (S1 _ _ j2)) na1 na2 na3 fun Gi Si ib => ?_⟩
        have S3 := S1.trans Si
        have hlp3 := S3 _ _ hlp
        refine ⟨lp, _, _, rfl, rfl, hlp3, (show 1 < sizeLine by decide), ?_⟩
        have off : But lp Gi (upd Gi lp (.lst ([.ref xa] ++ [.ref xb]))) := But.upd
        have pl2 := push_ph hlp3 (pl.same fun _ _ h => h.same S3) ib
        have sf2 := stf_off (sf.but wj nla (But.of S3)) hlp3 nlpl off
        have fk2 := flk_off (flk_but fk wj (But.of S3)) hlp3 off
        have hls2 := off _ _ nlpls (S3 _ _ hls)
        have hle2 := off _ _ nlple (S3 _ _ hle)
        have B2 : But a H (upd Gi lp (.lst ([.ref xa] ++ [.ref xb]))) := K55.But.keep (B.trans (But.of S3)) nHp
        have wk := well_off (wj.same S3) (Ne.symm nlpa) off
        have hlpk : upd Gi lp (.lst ([.ref xa] ++ [.ref xb])) lp = some (.lst [.ref xa, .ref xb]) := upd_same
        generalize upd Gi lp (.lst ([.ref xa] ++ [.ref xb])) = Gk at pl2 sf2 fk2 hls2 hle2 B2 wk hlpk ⊢
        clear S1 S3 Sq Sh Si off pl sf fk hls hle B wj hlp hlp3 ib na1 na2 na3 nq hq3 k2 j2 j3
        -- the third Phase
        refine ⟨_, rfl, .inl ⟨rfl, _, SqL.of hlpk⟩, ?_⟩
        refine ⟨(show 1 ≤ sizeLine by decide), fun q nq => ⟨(show 1 ≤ sizeLine by decide), fun q4 nq4 => ⟨rfl, rfl, ?_⟩⟩⟩
        have Sq := Same.new (o := .tup [.str "fresh"]) nq
        have S4 := Same.new (o := .tup [.str "right"]) nq4
        have S1 := Sq.trans S4
        refine fun xc da na1 na2 na3 => mk_ph (z := "close") (ws := ["fresh"]) (ps := ["right"]) (qs := []) ph_ok.2.2 (SqT.of (S4 _ _ upd_same)) (SqT.of upd_same) (T.k_Phase_waits _) na1 na2 na3 fun Gl Sl ic => ?_
        have S3 := S1.trans Sl
        have hlp3 := S3 _ _ hlpk
        refine ⟨lp, _, _, rfl, rfl, hlp3, (show 2 < sizeLine by decide), ?_⟩
        have off : But lp Gl (upd Gl lp (.lst ([.ref xa, .ref xb] ++ [.ref xc]))) := But.upd
        obtain ⟨ps2, e2', pl2⟩ := pl2
        cases Option.some.inj (hlpk.symm.trans e2')
        have pl3 := push_ph hlp3 (pl2.same fun _ _ h => h.same S3) ic
        have sf3 := stf_off (sf2.but wk nla (But.of S3)) hlp3 nlpl off
        have fk3 := flk_off (flk_but fk2 wk (But.of S3)) hlp3 off
        have B3 : But a H (upd Gl lp (.lst ([.ref xa, .ref xb] ++ [.ref xc]))) := K55.But.keep (B2.trans (But.of S3)) nHp
        have wm := well_off (wk.same S3) (Ne.symm nlpa) off
        have hlpm : upd Gl lp (.lst ([.ref xa, .ref xb] ++ [.ref xc])) lp = some (.lst [.ref xa, .ref xb, .ref xc]) := upd_same
        generalize upd Gl lp (.lst ([.ref xa, .ref xb] ++ [.ref xc])) = Gm at pl3 sf3 fk3 B3 wm hlpm ⊢
        clear S1 S3 S4 Sq Sl off pl2 sf2 fk2 hls2 hle2 B2 wk hlpk hlp3 e2' ic na1 na2 na3 nq nq4
        obtain ⟨ps3, e3', pl3⟩ := pl3
        cases Option.some.inj (hlpm.symm.trans e3')
        have pl3 : Each (IsPh K) Gm [.ref xa, .ref xb, .ref xc] ((plan3 c1 c2 kp e1 e2).map some) := pl3
        -- ways
        refine run_wyL rfl wm fun x12 Gn rs wn bn mr hw => ?_
        have sf4 := sf3.but wm nla bn
        have fk4 := flk_but fk3 wm bn
        have hlpn := bn _ _ nlpa hlpm
        have pl4 := phs_but pl3 wm bn
        have B4 := B3.trans bn
        obtain ⟨q12, bs, rfl, hq, ey⟩ := hw
        clear bn wm sf3 fk3 B3 hlpm pl3 e3'
        obtain ⟨okl, ok1, oky2, oky3⟩ := wy_ok rs mr
        -- the Rollout
        refine ⟨_, rfl, _, rfl, _, rfl, _, rfl, a, 2, rfl, wn, by decide, by decide, fun Go d d0 d1 wo bo => ⟨_, rfl, lp, _, rfl, SqL.of (bo _ _ nlpa hlpn), fun lq nlq => ?_⟩⟩
        have pk := plan_ok c1 m1 c2 m2 kp r1 e1 q1 e2 q2
        have plo := phs_but pl4 wn bo
        obtain ⟨ds, hds, pds, lds1, lds2, bds⟩ : ∃ ds : List Ph, (∃ ps : List V, cutV [.ref xa, .ref xb, .ref xc] (some d) none = ps ∧ Each (IsPh K) Go ps (ds.map some)) ∧ True ∧ 2 ≤ ds.length ∧ ds.length ≤ 3 ∧ badP (ds.map some) ["old", "fresh", "more"] = none ∧ badY (rs.filter is10) ds.length = none := by
          rcases (show d = 0 ∨ d = 1 by omega) with rfl | rfl
          · exact ⟨plan3 c1 c2 kp e1 e2, ⟨_, rfl, plo⟩, trivial, (show 2 ≤ 3 by decide), (show 3 ≤ 3 by decide), pk.1, oky3⟩
          · refine ⟨(plan3 c1 c2 kp e1 e2).drop 1, ⟨_, rfl, ?_⟩, trivial, (show 2 ≤ 2 by decide), (show 2 ≤ 3 by decide), pk.2, oky2⟩
            exact ⟨rfl, fun i x e => plo.2 (i + 1) x e⟩
        obtain ⟨ps, eps, plo⟩ := hds
        rw [eps]
        have Sl := Same.new (o := .lst ps) nlq
        have hlq : upd Go lq (.lst ps) lq = some (.lst ps) := upd_same
        have nlqa := wo.new nlq
        have b2 := bo.trans (But.of Sl)
        have sf5 := sf4.but wn nla b2
        have fk5 := flk_but fk4 wn b2
        have B5 := B4.trans b2
        have wp := wo.same Sl
        have hq5 := but_tup b2 wn hq
        have ey5 := ey.same (H' := upd Go lq (.lst ps)) fun _ _ h => wy_but h wn b2
        have pl5 := plo.same (H' := upd Go lq (.lst ps)) fun _ _ h => h.same Sl
        generalize upd Go lq (.lst ps) = Gp at hlq sf5 fk5 B5 wp hq5 ey5 pl5 ⊢
        clear b2 Sl bo plo wn wo nlq sf4 fk4 B4 hlpn pl4 hq ey pk eps
        refine ⟨_, rfl, a, 2, rfl, wp, by decide, by decide, fun Gq d2 f0 f1 wq bq => ?_⟩
        have hlq6 := bq _ _ nlqa hlq
        have sf6 := sf5.but wp nla bq
        have fk6 := flk_but fk5 wp bq
        have B6 := B5.trans bq
        have hq6 := but_tup bq wp hq5
        have ey6 := ey5.same (H' := Gq) fun _ _ h => wy_but h wp bq
        have pl6 := phs_but pl5 wp bq
        clear bq hlq sf5 fk5 B5 wp hq5 ey5 pl5
        refine ⟨_, rfl, q12, rfl, ⟨_, SqT.of hq6⟩, fun D3 nD3 => ?_⟩
        have n3 := wq.new nD3
        have S3 := Same.new (o := .lst []) nD3
        refine lc_tup (K := K) (xs := bs) (fun j G' => Same Gq G' ∧ ∃ ys : List V, G' D3 = some (.lst ys) ∧ Each (WyAt K) G' ys ((rs.take j).filter is10)) ⟨S3, [], upd_same, ⟨rfl, fun i x e => by cases e⟩⟩ (fun j G' _ g => SqT.of (g.1 _ _ hq6)) (fun j y G' hy g => ?_) (fun G' g => ?_)
        · obtain ⟨s', ys, hD3, eyy⟩ := g
          have lj := (List.getElem?_eq_some_iff.mp hy).1
          obtain ⟨r, er, hr⟩ := ey6.2 j y hy
          have tk : (rs.take (j + 1)).filter is10 = (rs.take j).filter is10 ++ [r].filter is10 := by rw [List.take_succ, er, List.filter_append]; rfl
          obtain ⟨rp, rfl, hrp⟩ := hr
          refine ⟨rfl, _, rfl, (show 2 ≤ sizeLine by decide), fun pp npp => ?_⟩
          have Sp := Same.new (o := .tup [.int 1, .int 0]) npp
          have hrp7 : SqT K (upd G' pp (.tup [.int 1, .int 0])) rp [.int r.1, .int r.2] := (hrp.same s').same Sp
          refine ⟨.tup [.int r.1, .int r.2], .tup [.int 1, .int 0], is10 r, .tup hrp7 (.cons .int (.cons .int .nil)), .tup (SqT.of upd_same) (.cons .int (.cons .int .nil)), eq_10 r, dep_2 _ _, _, rfl, ?_⟩
          have hD7 := Sp _ _ hD3
          have s7 := s'.trans Sp
          have eyy7 := eyy.same (H' := upd G' pp (.tup [.int 1, .int 0])) fun _ _ h => h.same2 Sp
          generalize upd G' pp (.tup [.int 1, .int 0]) = G7 at hrp7 hD7 s7 eyy7 ⊢
          have lyy := eyy7.1
          have lf := List.length_filter_le is10 (rs.take j)
          have lt := List.length_take_le j rs
          have lbs := ey6.1
          cases c10 : is10 r with
          | true =>
            refine iteT ⟨_, rfl, _, hD7, ?_, same_put s7 nD3, _, upd_same, ?_⟩
            · have : 1000 < sizeLine := by decide
              omega
            · rw [tk, List.filter_cons, c10, if_pos rfl]
              have stay : ∀ {x : V} {r : Int × Int}, WyAt K G7 x r → WyAt K (upd G7 D3 (.lst (ys ++ [.ref rp]))) x r := fun {x r} ⟨q, eq, hq⟩ => ⟨q, eq, hq.off (fun o zs => ⟨by rw [hD7]; simp, by rw [hD7]; simp⟩) fun c u n e => (upd_ne n).trans e⟩
              exact Each.snoc (eyy7.same fun _ _ h => stay h) (stay ⟨rp, rfl, hrp7⟩)
          | false =>
            refine iteF ⟨s7, ys, hD7, ?_⟩
            rw [tk, List.filter_cons, c10, if_neg Bool.false_ne_true, List.filter_nil, List.append_nil]
            exact eyy7
        · obtain ⟨s', ys, hD3, eyy⟩ := g
          have lb := ey6.1
          rw [lb, List.take_length] at eyy
          refine ⟨rfl, rfl, fun x9 dx nx ndx ne => ?_⟩
          have U1 := Same.new (o := .own x9) ndx
          have nx1 : upd G' dx (.own x9) x9 = none := by rw [upd_ne (Ne.symm ne)]; exact nx
          have U2 := U1.trans (Same.new (o := .ins (ga K "Rollout") dx []) nx1)
          obtain ⟨ws, hws, ews⟩ := sf6
          have pt : Parts K G' ws ps ys x ⟨["old", "fresh", "more"], ds, 1, d2, rs.filter is10⟩ := ⟨wrs_but ews wq (But.of s'), flk_but fk6 wq (But.of s'), phs_but pl6 wq (But.of s'), eyy⟩
          have ok : Ro.Ok ⟨["old", "fresh", "more"], ds, 1, d2, rs.filter is10⟩ := {
            z1 := (show 1 ≤ 3 by decide)
            z4 := (show 3 ≤ 4 by decide)
            zn := zn_3
            p1 := by show 1 ≤ ds.length; omega
            p6 := by show ds.length ≤ 6; omega
            pn := bds.1
            w1 := (show (1 : Int) ≤ 1 by decide)
            w2 := (show (1 : Int) ≤ 2 by decide)
            h0 := f0
            h2 := by show d2 ≤ 2; omega
            bl := okl
            bn := bds.2 }
          refine ⟨x9, dx, l, x, lq, D3, ws, ps, ys, ⟨["old", "fresh", "more"], ds, 1, d2, rs.filter is10⟩, rfl, upd_same, .inl (SqL.of (U2 _ _ (s' _ _ hws))), .inl (SqL.of (U2 _ _ (s' _ _ hlq6))), .inl (SqL.of (U2 _ _ hD3)), pt.same U2, ok, fun H' Bx ra => ⟨rfl, ?_⟩⟩
          have S9 : Same G' H' := But.new ((But.of U1).trans (But.upd.trans Bx)) nx
          exact k _ ws ps ys x x9 H' ((wq.same s').same S9) ((B6.trans (But.of s')).trans (But.of S9)) ⟨ra, pt.same S9, ok⟩ lds1 lds2
end
end K55

set_option maxRecDepth 100000
set_option maxHeartbeats 4000000
namespace K55
open PySem PySem.Spec PyProof.Rows L2 He VH RZ
/-! sight, by what it refuses -/
abbrev sChM : Stmt := top 98
abbrev sSgt : Stmt := top 104
abbrev sNWd : Stmt := inClass (top 9) 0
abbrev FnChM (K : PySem.W.Frag) (fd : FuncData) : Prop := FnP K "check_most" sChM (ga K "check_most") fd
abbrev FnSgt (K : PySem.W.Frag) (fd : FuncData) : Prop := FunD K "sight" "sight" (defArgs sSgt) (defBody sSgt) (defScope sSgt) [] [("most", .int 2000)] (ga K "sight") fd
abbrev FnNWd (K : PySem.W.Frag) (fd : FuncData) : Prop := FnM K "__init__" "NoWord.__init__" 9 0 (ma K (ga K "NoWord") "__init__") fd
abbrev lkW : List Str := ["absent", "missing", "right", "wrong"]
/-- NoWord(x) -/
def Rwd (K : PySem.W.Frag) (E : XK) (H : Hp) (x : V) : Prop := ∀ (d : Addr) (H' : Hp), H d = none → Same H H' → H' d = some (.xd [("word", x)]) → E (.ref (ga K "NoWord")) (some d) H'
/-- no word of a look -/
def NoW (K : PySem.W.Frag) (H : Hp) (z : V) : Prop := (∃ u, z = .str u ∧ lkW.contains u = false) ∨ NoTx K H z
def lowB (q : Option Int) : Bool := match q with
  | some i => decide (1 ≤ i)
  | none => false
def spChM (K : PySem.W.Frag) : Sp := fun vs H Q E => ∃ (x : V) (q : Option Int), vs = [x] ∧ isI K H x q ∧ lowB q = false ∧ Rnum K E H "most"
def spSgt (K : PySem.W.Frag) : Sp := fun vs H Q E => ∃ x y z m : V, vs = [x, y, z, m] ∧ ((NoRo K H x ∧ Rro K E H) ∨
  ∃ (a fa : Addr) (ws ps bs : List V) (d : Ro) (r : Option Int), x = .ref a ∧ Roll K H a ws ps bs fa d ∧ isI K H y r ∧
    ((numB r ps.length = false ∧ Rnum K E H "phase") ∨ (numB r ps.length = true ∧
      ((NoW K H z ∧ Rwd K E H z) ∨ ((∃ u, z = .str u ∧ lkW.contains u = true) ∧ ∃ q, isI K H m q ∧ lowB q = false ∧ Rnum K E H "most")))))
theorem bChM {K : PySem.W.Frag} {fd : FuncData} (F : FnChM K fd) : Binds K fd ["most"] [] := FunD.bindsN F fun _ _ _ _ _ _ us hl => match us, hl with | [_], _ => rfl
abbrev pSgt : List Str := ["rollout", "phase", "word", "most"]
theorem kSgA {K : PySem.W.Frag} {fd : FuncData} (F : FnSgt K fd) : ∃ mv : List Value, KBn K fd pSgt 3 ["most"] (fun us ws => us ++ (mv ++ ws)) (fun vs zs => vs ++ ((([] : List (Str × V)).map (·.2)) ++ zs)) :=
  FunD.kbinds0 F 3 ["most"] [] (fun us its ws => us ++ (its ++ ws)) (by simp) (by simp) (fun a d b => a.append (d.append b))
    fun D doc pm an cdv ct us mv ws l1 l2 l3 => match us, mv, ws, l1, l2, l3 with
      | [_, _, _], [], [_], _, _, _ => rfl
theorem vals_get {vs : List V} {us : List Value} (r : Vals vs us) : ∀ n : Nat, Vals (vs.drop n) (us.drop n) := fun n => r.drop n
/-- all by name -/
def byN {α : Type} (us ws : List α) : List α := us ++ ((ws.drop 1).take 1 ++ (ws.drop 3 ++ (ws.take 1 ++ (ws.drop 2).take 1)))
theorem kSgB {K : PySem.W.Frag} {fd : FuncData} (F : FnSgt K fd) : ∃ mv : List Value, KBn K fd pSgt 0 ["word", "rollout", "most", "phase"] (fun us ws => byN us (mv ++ ws)) (fun vs zs => byN vs ((([] : List (Str × V)).map (·.2)) ++ zs)) :=
  FunD.kbinds0 F 0 ["word", "rollout", "most", "phase"] [] (fun us its ws => byN us (its ++ ws)) (by simp) (by simp) (fun a d b => by
      have e := d.append b
      exact a.append (((e.drop 1).take 1).append ((e.drop 3).append ((e.take 1).append ((e.drop 2).take 1)))))
    fun D doc pm an cdv ct us mv ws l1 l2 l3 => match us, mv, ws, l1, l2, l3 with
      | [], [], [_, _, _, _], _, _, _ => rfl
section
variable {P : Program} {w : World} {K : PySem.W.Frag} {mg : Str → Option Value} {base : Heap} {f : Addr} {fd : FuncData}
theorem scNWd : FnScope ["self", "word"] ["self", "word"] (defScope sNWd) := ⟨rfl, rfl, rfl, by decide +kernel, rfl, by decide +kernel, by decide +kernel⟩
theorem okNWd (F : FnM K "__init__" "NoWord.__init__" 9 0 f fd) : FnOk P w K mg base CX0 1 f fd ["self", "word"] (spIni K ["word"]) := by
  refine F.ok scNWd (fun vs H Q E h => ?_) (fun cdv A outer s H vs Q E hr h => ?_)
  · obtain ⟨a, C, v, rfl, _⟩ := ini1 h
    rfl
  refine ⟨_, PSs.nox (pss_one (ps_ost (pv 0) (pv 1))), ?_⟩
  obtain ⟨a, C, v, rfl, T, no, ha, k⟩ := ini1 h
  exact ⟨_, rfl, _, rfl, a, C, rfl, T, no, .inl ⟨ha, fun dx n ne => k dx n ne⟩⟩
theorem bNWd (F : FnM K "__init__" "NoWord.__init__" 9 0 f fd) : Binds K fd ["self", "word"] [] := FunD.bindsN F fun _ _ _ _ _ _ us hl => match us, hl with | [_, _], _ => rfl
theorem scChM : FnScope ["most"] ["most"] (defScope sChM) := ⟨rfl, rfl, rfl, by decide +kernel, rfl, by decide +kernel, by decide +kernel⟩
theorem ok_chm (F : FnP K "check_most" sChM f fd) (T : Txt K mg w) (fns : Fns K) : FnOk P w K mg base (L2.CX P w) 3 f fd ["most"] (spChM K) := by
  obtain ⟨dI, FI⟩ := fns.f_is_integer
  obtain ⟨dY, FY⟩ := fns.f_NoNumber_init
  have GI : FnOk P w K mg base CX0 1 (ga K "is_integer") dI ["value"] (spInt K) := ok_int FI T
  refine F.ok scChM (fun vs H Q E h => ?_) (fun cdv A outer s H vs Q E hr h => ?_)
  · obtain ⟨_, _, rfl, _⟩ := h
    rfl
  refine ⟨_, pss_one (ps_if (PW.pt (pw_or (pt_not (pt_val (pe_call GI (hr.mono (by decide)) (by rfl) T.m_is_integer FI.kp (bInt FI) .nil pass0 (pa_cons (pv 0) pa_nil)))) (pw_or1 (pt_cmpR op_lt (pv 0) pe_int (nomark _)))))
    (pss_one (ps_raise rfl (takes_of rfl rfl rfl rfl) (pmk_oex T.x_NoNumber.mkx.toOexC T.x_NoNumber.mkx.ini T.x_NoNumber.mkx.tyI (okNoN FY) (hr.mono (by decide)) (bNoN FY) .nil pass0 (by rfl) T.m_NoNumber (pa_cons pe_str pa_nil)))) pss_nil), ?_⟩
  obtain ⟨x, q, rfl, hx, lo, z⟩ := h
  have go := fun (z : Rnum K E H "most") => (⟨(show 1 ≤ 1000 by decide), fun p n => read_raise T.x_NoNumber [.str "most"] n rfl rfl (by simp) rfl fun d H' nd s e => z d H' nd s e⟩ : ([V.str "most"].length ≤ 1000 ∧ ∀ p, H p = none → spIni K ["part"] [.ref p, .str "most"] (upd H p (exo p (ga K "NoNumber") none)) (fun v H2 => v = .non ∧ ∃ (d : Addr) (fs : List (Str × V)), H2 p = some (exo p (ga K "NoNumber") (some d)) ∧ H2 d = some (exd d fs) ∧ H d = none ∧ E (.ref (ga K "NoNumber")) (some d) (upd (del H2 p) d (.xd fs))) (fun _ _ _ => False)))
  rcases hx with ⟨i, rfl, rfl⟩ | ⟨hv, rfl⟩
  · refine ⟨_, rfl, _, true, rfl, IntV.int, true, rfl, iteF ?_⟩
    have li : i < 1 := by
      have : ¬ 1 ≤ i := of_decide_eq_false lo
      omega
    refine ⟨_, rfl, _, _, rfl, rfl, _, rfl, ?_⟩
    rw [decide_eq_true li]
    exact iteT (go z)
  · refine ⟨_, rfl, _, false, rfl, hv, false, rfl, iteT ?_⟩
    exact iteT (go z)
abbrev nSgt : List Str := ["rollout", "phase", "word", "most", "ways", "state"]
theorem scSgt : FnScope nSgt pSgt (defScope sSgt) := ⟨rfl, rfl, rfl, by decide +kernel, rfl, by decide +kernel, by decide +kernel⟩
theorem ok_sgt (F : FnSgt K fd) (T : Txt K mg w) (fns : Fns K) : FnOk P w K mg base (L2.CX P w) 6 (ga K "sight") fd pSgt (spSgt K) := by
  obtain ⟨dI, FI⟩ := fns.f_is_integer
  obtain ⟨dB, FB⟩ := fns.f_is_between
  obtain ⟨dC, FC⟩ := fns.f_check_rollout
  obtain ⟨dM, FM⟩ := fns.f_check_most
  obtain ⟨dL, FL⟩ := fns.f_Rollout_len
  obtain ⟨dW, FW⟩ := fns.f_is_word
  obtain ⟨dX, FX⟩ := fns.f_NoRollout_init
  obtain ⟨dY, FY⟩ := fns.f_NoNumber_init
  obtain ⟨dZ, FZ⟩ := fns.f_NoWord_init
  have GB : FnOk P w K mg base CX0 2 (ga K "is_between") dB ["value", "least", "most"] (spBtw K) := ok_btw FB T FI
  have GC : FnOk P w K mg base (L2.CX P w) 3 (ga K "check_rollout") dC ["value"] (spChR K) := ok_chr FC T FX
  have GM : FnOk P w K mg base (L2.CX P w) 3 (ga K "check_most") dM ["most"] (spChM K) := ok_chm FM T fns
  have GW : FnOk P w K mg base CX0 1 (ga K "is_word") dW ["value", "words"] (spWrd K) := ok_wrd FW T
  refine F.ok scSgt (fun vs H Q E h => ?_) (fun cdv A outer s H vs Q E hr h => ?_)
  · obtain ⟨_, _, _, _, rfl, _⟩ := h
    rfl
  refine ⟨_, pss_cons (ps_expr (pe_call GC (hr.mono (by decide)) (by rfl) T.m_check_rollout FC.kp (bChR FC) .nil (pass_c (takes_of rfl rfl rfl rfl)) (pa_cons (pv 0) pa_nil)))
    (pss_cons (ps_if (pt_not (pt_val (pe_call GB (hr.mono (by decide)) (by rfl) T.m_is_between FB.kp (bBtw FB) .nil pass0 (pa_cons (pv 1) (pa_cons pe_int (pa_cons (pe_op op_sub (pe_callB (call_lenR T FL (hr.mono (by decide))) (by rfl) T.g_len boot_len (pa_cons (pv 0) pa_nil)) pe_int) pa_nil))))))
        (pss_one (ps_raise rfl (takes_of rfl rfl rfl rfl) (pmk_oex T.x_NoNumber.mkx.toOexC T.x_NoNumber.mkx.ini T.x_NoNumber.mkx.tyI (okNoN FY) (hr.mono (by decide)) (bNoN FY) .nil pass0 (by rfl) T.m_NoNumber (pa_cons pe_str pa_nil)))) pss_nil)
    (pss_cons (ps_if (pt_not (pt_val (pe_call GW (hr.mono (by decide)) (by rfl) T.m_is_word FW.kp (bWrd FW) .nil pass0 (pa_cons (pv 2) (pa_cons (pe_glob (v := .ref (ga K "LOOKS")) (by rfl) T.m_LOOKS rfl) pa_nil)))))
        (pss_one (ps_raise rfl (takes_of rfl rfl rfl rfl) (pmk_oex T.x_NoWord.mkx.toOexC T.x_NoWord.mkx.ini T.x_NoWord.mkx.tyI (okNWd FZ) (hr.mono (by decide)) (bNWd FZ) .nil pass0 (by rfl) T.m_NoWord (pa_cons (pv 2) pa_nil)))) pss_nil)
    (pss_cons (ps_expr (pe_call GM (hr.mono (by decide)) (by rfl) T.m_check_most FM.kp (bChM FM) .nil (pass_c (takes_of rfl rfl rfl rfl)) (pa_cons (pv 3) pa_nil)))
    (pss_cons ps_never (pss_cons ps_never (pss_one ps_never)))))), ?_⟩
  obtain ⟨x, y, z, m, rfl, h⟩ := h
  rcases h with ⟨no, rr⟩ | ⟨a, fa, ws, ps, bs, d, r, rfl, ro, hy, h⟩
  · exact ⟨_, rfl, x, rfl, .inr ⟨no, fun d H' nd s e => rr d H' nd s e⟩⟩
  have lp := some_len ro.p.p
  have p6 := ro.ok.p6
  refine ⟨_, rfl, _, rfl, .inl ⟨a, ws, ps, bs, fa, d, rfl, ro.r, ?_⟩⟩
  refine ⟨_, rfl, _, rfl, ?_⟩
  dsimp only [tNil]
  refine read_lenR (X := cxOf (L2.CX P w) P w K mg base nSgt "sight" (defScope sSgt) (ga K "sight") cdv A outer s H E) ro.r (by omega) ?_
  refine ⟨_, _, rfl, rfl, y, 0, ((ps.length : Nat) : Int) - 1, r, rfl, hy, numB r ps.length, rfl, ?_⟩
  rcases h with ⟨nb, z1⟩ | ⟨nb, h⟩
  · rw [nb]
    exact iteT ⟨(show 1 ≤ 1000 by decide), fun p n => read_raise T.x_NoNumber [.str "phase"] n rfl rfl (by simp) rfl fun d H' nd s e => z1 d H' nd s e⟩
  rw [nb]
  refine iteF ⟨_, rfl, ?_⟩
  rcases h with ⟨nw, z2⟩ | ⟨⟨u, rfl, hu⟩, q, hm, lo, z3⟩
  · have go : ∀ p, H p = none → spIni K ["word"] [.ref p, z] (upd H p (exo p (ga K "NoWord") none)) (fun v H2 => v = .non ∧ ∃ (d : Addr) (fs : List (Str × V)), H2 p = some (exo p (ga K "NoWord") (some d)) ∧ H2 d = some (exd d fs) ∧ H d = none ∧ E (.ref (ga K "NoWord")) (some d) (upd (del H2 p) d (.xd fs))) (fun _ _ _ => False) := fun p n =>
      read_raise T.x_NoWord [z] n rfl rfl (by simp) rfl fun d H' nd s e => z2 d H' nd s e
    rcases nw with ⟨u, rfl, hu⟩ | nt
    · refine ⟨_, _, lkW, rfl, T.t_LOOKS H, .inl ⟨u, rfl, false, by rw [hu], iteT ?_⟩⟩
      exact ⟨_, rfl, (show 1 ≤ 1000 by decide), go⟩
    · refine ⟨_, _, lkW, rfl, T.t_LOOKS H, .inr ⟨nt, false, rfl, iteT ?_⟩⟩
      exact ⟨_, rfl, (show 1 ≤ 1000 by decide), go⟩
  · refine ⟨_, _, lkW, rfl, T.t_LOOKS H, .inl ⟨u, rfl, true, by rw [hu], iteF ?_⟩⟩
    exact ⟨_, rfl, m, q, rfl, hm, lo, z3⟩
end
end K55

set_option maxRecDepth 100000
set_option maxHeartbeats 4000000
/-! try with several except clauses, each with a name or without. -/
namespace L2
open PySem PySem.Spec PyProof.Rows
/-- a clause: its class, the slot of its name, its suite's reading -/
abbrev Clause : Type := Value × Option Nat × (Addr → Value → Option Addr → TS)
def Ends.drop (D : Ends) (i : Nat) : Ends := { nx := fun σ H => D.nx (σ.set i none) H, rt := D.rt, bk := fun σ H => D.bk (σ.set i none) H, ct := fun σ H => D.ct (σ.set i none) H }
def Clause.go (q : Clause) (a : Addr) (cls : Value) (d : Option Addr) (D : Ends) (σ : St) (H : Hp) : Prop := match q.2.1 with
  | none => q.2.2 a cls d D σ H
  | some i => q.2.2 a cls d (D.drop i) (σ.set i (some (.ref a))) H
/-- what the clauses wish, one behind another -/
def wMix (K : PySem.W.Frag) (Wout : WX) (D : Ends) : List Clause → WX
  | [] => Wout
  | q :: r => fun cls d σ H => ∃ b, PySem.W.exmOne K cls q.1 = some b ∧ (b = true → ∀ a, H a = none → q.go a cls d D σ H) ∧ (b = false → wMix K Wout D r cls d σ H)
inductive MixOk (X : Cx) : List ExceptHandler → List Clause → Prop
  | nil : MixOk X [] []
  | bare {x : Str} {c : Value} {ts : Addr → Value → Option Addr → TS} {st : Stmt} {more : List Stmt} {p1 p2 : Pos} {hs : List ExceptHandler} {l : List Clause} (hc : Names X x c)
      (su : ∀ (a : Addr) (oe : Obj) (cls : Value) (d : Option Addr) (pn : List (Addr × Obj)), Zc cls d oe → (∃ vs, oe.data = .fields vs) → PSs (X.suite a ((a, oe) :: pn)) (st :: more) (ts a cls d)) (r : MixOk X hs l) :
      MixOk X (.ExceptHandler (some (.Name x p1)) none (st :: more) p2 :: hs) ((c, none, ts) :: l)
  | named {x n : Str} {i : Nat} {c : Value} {ts : Addr → Value → Option Addr → TS} {st : Stmt} {more : List Stmt} {p1 p2 : Pos} {hs : List ExceptHandler} {l : List Clause} (hN : X.N.Nodup) (hi : X.N[i]? = some n) (hl : X.env.kindOf n = some .local) (hc : Names X x c)
      (su : ∀ (a : Addr) (oe : Obj) (cls : Value) (d : Option Addr) (pn : List (Addr × Obj)), Zc cls d oe → (∃ vs, oe.data = .fields vs) → PSs (X.suite a ((a, oe) :: pn)) (st :: more) (ts a cls d)) (r : MixOk X hs l) :
      MixOk X (.ExceptHandler (some (.Name x p1)) (some n) (st :: more) p2 :: hs) ((c, some i, ts) :: l)
section
variable {X : Cx} {body : List Stmt} {k0 : ExceptHandler} {ks : List ExceptHandler} {l : List Clause} {pos : Pos} {tb : WX → TS} {Wout : WX}
theorem ps_try_mix (hst : X.stack = X.env :: X.outer) (hfr : X.env.frame = some X.env.locals) (tk : Takes X Wout)
    (hb : ∀ (W : WX) (pn : List (Addr × Obj)) (xe : Value → Shared → Prop), Takes (X.tr pn xe) W → PassesOwn (model X.prog X.w) X.A X.env xe → PSs (X.tr pn xe) body (tb W))
    (hk : MixOk X (k0 :: ks) l) : PS X (.Try body (k0 :: ks) [] [] pos) (fun D σ H => tb (wMix X.K Wout D l) D σ H) := by
  refine ⟨fun pins s σ H D I h => ?_⟩
  have good := I.ok
  have fr : X.A.frames = some (X.env :: X.outer) := by
    rw [good.frames, hst]
  refine wpAny_Try_except ?_
  refine wpAny_mono ((hb (wMix X.K Wout D l) (X.pn ++ pins) (fun e z1 => wpAny (model X.prog X.w) X.A (noteFrame e X.env) (fun _ z2 => wpAny (model X.prog X.w) X.A (setFlight e none)
    (fun _ z3 => wpAny (model X.prog X.w) X.A (handleBy e X.env (k0 :: ks)) (SP X pins D) X.xe z3) X.xe z2) X.xe z1) (fun u s' air => ?_) PassesOwn.looking).run [] s σ H D (I.toTry _) h)
    (fun f z hz => ?_) (fun e z hz => hz)
  · obtain ⟨a, B, sB, qs, ρ, G, cls, d, rfl, J0, inB, ups, sky, nG, eos, bare, wish⟩ := air
    have J : Inv X pins ρ G sB := J0.ofTry good
    have sk : Sky B (X.env :: X.outer) a (Zc cls d) X.env.locals s'.heap := by
      rw [← hst]
      exact sky
    show wpAny (model X.prog X.w) X.A (noteFrame (Value.ref a) X.env) _ _ _
    refine Sky.land Zc.steady fr hfr sk fun g3 fly up3 => ?_
    have J3 : Inv X pins ρ G { s' with heap := g3 } := J.landed inB fly.1 (ups.trans up3) eos bare
    obtain ⟨o3, v3, at3, z3, d3⟩ := fly.there
    have away : a ∉ frs (X.env :: X.outer) := fun hm => by
      obtain ⟨_, o', e', no⟩ := fly.2.2.1.mem hm
      rw [at3] at e'
      cases e'
      exact no _ d3
    have nL : a ≠ X.env.locals := fun z => away (List.mem_filterMap.mpr ⟨X.env, List.mem_cons_self, by
      rw [hfr, z]⟩)
    have nF : a ∉ X.fs := fun hm => by
      obtain ⟨e, he, q⟩ := List.mem_filterMap.mp hm
      exact away (List.mem_filterMap.mpr ⟨e, List.mem_cons_of_mem _ he, q⟩)
    have S3 := J3.suite at3 d3 nG nL nF
    have isC : PySem.W.Looks (model X.prog X.w) g3 (typeOf (.ref a)) cls := fun A Q E s k q => wpAny_typeOf_ref (k _ _ at3) (by
      rw [z3.1]
      exact q)
    have name : ∀ {x : Str} {c : Value} {p1 : Pos} {Q : Value → Shared → Prop} {E : Value → Shared → Prop}, Names X x c → Q c { s' with heap := g3 } → wpAny (model X.prog X.w) (X.A.mark (some (.ref a))) (eval (.Name x p1) X.env) Q E { s' with heap := g3 } := fun {x c p1 Q E} hc q => by
      obtain ⟨w1, w2, w3 | ⟨w3, w4, w5⟩⟩ := hc
      · exact ld_glob (X := X.suite a ((a, o3) :: (X.pn ++ pins))) S3 w1 w3 q w2
      · exact ld_blt (X := X.suite a ((a, o3) :: (X.pn ++ pins))) S3 w1 w3 w4 q w5 w2
    have go : ∀ {hs' : List ExceptHandler} {l' : List Clause}, MixOk X hs' l' → wMix X.K Wout D l' cls d ρ G → wpAny (model X.prog X.w) X.A (handleBy (.ref a) X.env hs') (SP X pins D) X.xe { s' with heap := g3 } := by
      intro hs' l' m
      induction m with
      | nil =>
        intro w
        refine wpAny_handleBy_nil ?_
        obtain ⟨_, _, _, oe, vs, tb', _, _, he, _, hd, h1, _⟩ := id fly
        unfold PySem.passOn
        refine wpAny_bind (wpAny_field he hd h1 ?_)
        rw [if_neg (show ¬ ((Value.ref tb' == Value.none) = true) by simp)]
        have out : wpAny (model X.prog X.w) X.A (setFlight (.ref a) X.env.frame) (fun _ z4 => wpAny (model X.prog X.w) X.A (throw (.ref a) : Sem Flow) (SP X pins D) X.xe z4) X.xe { s' with heap := g3 } := by
          rw [hfr]
          refine HandSPX.setFlight_upZ fly fun h4 held up4 => wpAny_throw (tk _ _ ?_)
          exact ⟨a, B, sB, pins, ρ, G, cls, d, rfl, J, inB, (ups.trans up3).trans up4, .inr (.inr (by
            rw [hst]
            exact held)), nG, eos, bare, w⟩
        first
          | exact wpAny_bind (wpAny_pure (wpAny_bind out))
          | exact wpAny_bind out
      | @bare x c ts st more p1 p2 hs2 l2 hc su r ih =>
        intro w
        obtain ⟨b, e1, yes, no⟩ := w
        refine wpAny_handleBy_cons (codeAny_handlers_test ?_) (by
          intro q
          cases q)
        refine name hc ((PySem.W.exm_one (M := model X.prog X.w) J3.kIn isC e1).here ?_)
        cases b with
        | true =>
          refine codeAny_handlers_suite ?_
          refine HandSPX.lands_againZ fly fun g4 fly4 up4 => ?_
          have J4 : Inv X pins ρ G { s' with heap := g4 } := J.landed inB fly4.1 ((ups.trans up3).trans up4) eos bare
          obtain ⟨o4, v4, at4, z4, d4⟩ := fly4.there
          refine wpAny_mono ((su a o4 cls d (X.pn ++ pins) z4 ⟨_, d4⟩).run [] _ _ G _ (J4.suite at4 d4 nG nL nF) (yes rfl a nG)) (fun f z6 hsp => ?_) (fun _ _ z => False.elim z)
          cases f with
          | ret u =>
            obtain ⟨v6, ρ6, G6, S6, r6, q6⟩ := hsp
            exact ⟨_, _, _, S6.unsuite good, r6, q6⟩
          | _ =>
            obtain ⟨ρ6, G6, S6, q6⟩ := hsp
            exact ⟨_, _, S6.unsuite good, q6⟩
        | false =>
          show wpAny _ X.A (handleBy (.ref a) X.env hs2) _ _ _
          exact ih (no rfl)
      | @named x n i c ts st more p1 p2 hs2 l2 hN hi hl hc su r ih =>
        intro w
        obtain ⟨b, e1, yes, no⟩ := w
        have loc : Loc X.env.scope n := .inl hl
        refine wpAny_handleBy_cons (codeAny_handlers_test ?_) (by
          intro q
          cases q)
        refine name hc ((PySem.W.exm_one (M := model X.prog X.w) J3.kIn isC e1).here ?_)
        cases b with
        | true =>
          refine codeAny_handlers_suite_as ?_
          refine HandSPX.lands_againZ fly fun g4 fly4 up4 => ?_
          have J4 : Inv X pins ρ G { s' with heap := g4 } := J.landed inB fly4.1 ((ups.trans up3).trans up4) eos bare
          obtain ⟨o4, v4, at4, z4, d4⟩ := fly4.there
          refine store_ok (X := X.suite a ((a, o4) :: (X.pn ++ pins))) (v := V.ref a) (J4.suite at4 d4 nG nL nF) hN hi loc rfl (fun z5 S5 => ?_) (.inr hl)
          refine wpAny_mono ((su a o4 cls d (X.pn ++ pins) z4 ⟨_, d4⟩).run [] z5 _ G _ S5 (yes rfl a nG)) (fun f z6 hsp => ?_) (fun _ _ z => False.elim z)
          have goes : ∀ {ρ6 : St} {G6 : Hp} {Q : Shared → Prop}, Inv (X.suite a ((a, o4) :: (X.pn ++ pins))) [] ρ6 G6 z6 → (∀ z7, Inv X pins (ρ6.set i none) G6 z7 → Q z7) →
              wpAny (model X.prog X.w) X.A (do bindName X.env n .none; unbindBehindTheSuite X.env n p2) (fun _ z7 => Q z7) X.xe z6 := fun S6 hq => gone_ok (S6.unsuite good) hN hi hl hq
          cases f with
          | ret u =>
            obtain ⟨v6, ρ6, G6, S6, r6, q6⟩ := hsp
            exact goes S6 fun z7 J7 => ⟨_, _, _, J7, r6, q6⟩
          | _ =>
            obtain ⟨ρ6, G6, S6, q6⟩ := hsp
            exact goes S6 fun z7 J7 => ⟨_, _, J7, q6⟩
        | false =>
          show wpAny _ X.A (handleBy (.ref a) X.env hs2) _ _ _
          exact ih (no rfl)
    exact go hk wish
  · cases f with
    | next =>
      obtain ⟨ρ, G, J0, q⟩ := hz
      exact wpAny_execs_nil ⟨ρ, G, J0.ofTry good, q⟩
    | ret u =>
      obtain ⟨v, ρ, G, J0, r, q⟩ := hz
      exact ⟨v, ρ, G, J0.ofTry good, r, q⟩
    | _ =>
      obtain ⟨ρ, G, J0, q⟩ := hz
      exact ⟨ρ, G, J0.ofTry good, q⟩
end
/-- isinstance(e, c) in a suite, e the exception that it holds, with a dict of its own -/
def rIsD (K : PySem.W.Frag) (a : Addr) (cls : Value) (d : Option Addr) : List V → Hp → VK → Prop := fun xs H Q => ∃ (D dd : Addr) (fs : List (Str × V)) (c : V) (cv : Value) (b : Bool), xs = [.ref a, c] ∧ cls = .ref D ∧ d = some dd ∧ H dd = some (.xd fs) ∧ ExcC K D ∧ (∀ u, RelV c u → u = cv) ∧
  PySem.W.kitOne K (.ref D) cv = some b ∧ Q (.bl b) H
theorem call_isD {X : Cx} {a : Addr} {oe : Obj} {cls : Value} {d : Option Addr} {pn : List (Addr × Obj)} (hz : Zc cls d oe) (hf : ∃ vs, oe.data = .fields vs) : CallR (X.suite a ((a, oe) :: pn)) (.builtin "isinstance") (rIsD X.K a cls d) := by
  intro pins s σ H xs us Q I r h
  obtain ⟨D, dd, fs, c, cv, b, rfl, rfl, rfl, hd, C, hcv, e, q⟩ := h
  obtain ⟨u, v, rfl, ru, rv⟩ := vals2 r
  obtain rfl : u = Value.ref a := ru
  obtain rfl := hcv _ rv
  obtain ⟨at_, _⟩ := I.pin (a, oe) (List.mem_append_left _ List.mem_cons_self)
  obtain ⟨vs, hv⟩ := hf
  obtain ⟨mA, ns, _⟩ := (show ObjOk X.prog X.w H s.heap dd (.xd fs) from I.hok dd _ hd)
  obtain ⟨od, eo, _⟩ := lookIn_ns ns
  have J : PySem.W.InstAt s.heap a oe D (some od) := by
    refine ⟨at_, hz.1, ?_, ?_⟩
    · unfold PySem.W.notCls
      rw [hv]
    · rw [hz.2]
      exact eo
  exact PySem.W.kia_one (PySem.W.vx_kit C) I.kIn ⟨oe, some od, J⟩ e (fun z => nomatch z) fun tk => ⟨.bl b, H, I.kept (t' := tk) fun _ _ z => z, rfl, q⟩
end L2

set_option maxRecDepth 100000
set_option maxHeartbeats 4000000
/-! A def that hands back a word and what its argument returns, or what its except clauses say: called with a lambda. -/
namespace LamX
open PySem PySem.Spec PyProof.Rows L2
theorem takes_len {X : Cx} {W : WX} (tk : Takes X W) : Takes X (fun cls d σ H => σ.length = X.N.length → W cls d σ H) := fun u s' h => by
  obtain ⟨a, B, sI, pins, σ, H, cls, d, e, I, k1, k2, k3, k4, k5, k6, k7⟩ := h
  exact tk u s' ⟨a, B, sI, pins, σ, H, cls, d, e, I, k1, k2, k3, k4, k5, k6, k7 I.len⟩
theorem takes_no {X : Cx} : Takes X (fun _ _ _ _ => False) := fun u s' h => by
  obtain ⟨_, _, _, _, _, _, _, _, _, _, _, _, _, _, _, _, z⟩ := h
  exact z.elim
/-- what is asked of the lambda -/
def TTmix (K : PySem.W.Frag) (n : Nat) (l : List Clause) (told : Str) : (XK → Hp → VK → Prop) → Hp → VK → Prop := fun tl H Q =>
  tl (fun cls d H' => ∀ σ' : L2.St, σ'.length = n → wMix K (fun _ _ _ _ => False) { nx := fun _ H' => Q V.non H', rt := Q } l cls d σ' H') H
    (fun v H1 => ([.str told, v] : List V).length ≤ sizeLine ∧ ∀ p, H1 p = none → Q (.ref p) (upd H1 p (.tup [.str told, v])))
theorem said_gives {X : Cx} {Ng : List Str} {x a q told : Str} {sg : Scope} {g : Addr} {cdg : Value} {j : Nat} {k0 : ExceptHandler} {ks : List ExceptHandler} {l : List Clause} {p1 p2 p3 p4 p5 p6 : Pos} {x1 : Nat}
    (hs : ∀ f : Addr, (L2.start Ng [V.ref f])[0]? = some (some (V.ref f)))
    (hk : ∀ (s : Shared) (H : Hp), MixOk (cxOf C8.CX0 X.prog X.w X.K X.mg X.base Ng x sg g cdg X.A X.stack s H C8.E0).nox (k0 :: ks) l) :
    GivesTo X Ng x sg g cdg [.Try [.Return (some (.Tuple [.Constant (.str told) j p1, .Call (.Name a p2) [] [] p3] x1 p4)) p5] (k0 :: ks) [] [] p6] a q (TTmix X.K Ng.length l told) := by
  intro f c' s H Q tl act hc tt
  refine ⟨_, pss_one (ps_try_mix (Wout := fun _ _ _ _ => False) (l := l) rfl rfl takes_no
    (fun W pn xe tk _ => pss_one (ps_ret (pe_tup (pa_cons pe_str (pa_cons (act (fun cls d σ H => σ.length = Ng.length → W cls d σ H) pn xe (fun cls d H' => ∀ σ' : L2.St, σ'.length = Ng.length → W cls d σ' H') p2 p3 (takes_len tk) (fun cls d σ' H' h e => h σ' e)) pa_nil)))))
    (hk s H)), ?_⟩
  exact ⟨hs f, hc, tt⟩
end LamX

set_option maxRecDepth 100000
set_option maxHeartbeats 4000000
/-! A def that calls its argument for its refusals alone: a word of the except clauses, or the word behind the try. -/
namespace LamX
open PySem PySem.Spec PyProof.Rows L2
/-- what is asked of the lambda -/
def TTsay (K : PySem.W.Frag) (n : Nat) (l : List Clause) (ret : Str) : (XK → Hp → VK → Prop) → Hp → VK → Prop := fun tl H Q =>
  tl (fun cls d H' => ∀ σ' : L2.St, σ'.length = n → wMix K (fun _ _ _ _ => False) { nx := fun _ H' => Q (V.str ret) H', rt := Q } l cls d σ' H') H (fun _ H1 => Q (V.str ret) H1)
theorem say_gives {X : Cx} {Ng : List Str} {x a q ret : Str} {sg : Scope} {g : Addr} {cdg : Value} {j : Nat} {k0 : ExceptHandler} {ks : List ExceptHandler} {l : List Clause} {p1 p2 p3 p4 p5 p6 : Pos}
    (hs : ∀ f : Addr, (L2.start Ng [V.ref f])[0]? = some (some (V.ref f)))
    (hk : ∀ (s : Shared) (H : Hp), MixOk (cxOf C8.CX0 X.prog X.w X.K X.mg X.base Ng x sg g cdg X.A X.stack s H C8.E0).nox (k0 :: ks) l) :
    GivesTo X Ng x sg g cdg [.Try [.Expr (.Call (.Name a p2) [] [] p3) p5] (k0 :: ks) [] [] p6, .Return (some (.Constant (.str ret) j p1)) p4] a q (TTsay X.K Ng.length l ret) := by
  intro f c' s H Q tl act hc tt
  refine ⟨_, pss_cons (ps_try_mix (Wout := fun _ _ _ _ => False) (l := l) rfl rfl takes_no
    (fun W pn xe tk _ => pss_one (ps_expr (act (fun cls d σ H => σ.length = Ng.length → W cls d σ H) pn xe (fun cls d H' => ∀ σ' : L2.St, σ'.length = Ng.length → W cls d σ' H') p2 p3 (takes_len tk) (fun cls d σ' H' h e => h σ' e))))
    (hk s H)) (pss_one (ps_ret pe_str)), ?_⟩
  exact ⟨hs f, hc, tt⟩
end LamX

set_option maxRecDepth 100000
set_option maxHeartbeats 4000000
/-! A def that calls its argument for its refusals alone: a pair of the except clauses, or (word, None) behind the try. -/
namespace LamX
open PySem PySem.Spec PyProof.Rows L2
/-- the answer behind the try -/
def nxS (ret : Str) (Q : VK) : L2.St → Hp → Prop := fun _ H' => ([V.str ret, V.non] : List V).length ≤ sizeLine ∧ ∀ p, H' p = none → Q (.ref p) (upd H' p (.tup [.str ret, .non]))
/-- what is asked of the lambda -/
def TTpair (K : PySem.W.Frag) (n : Nat) (l : List Clause) (ret : Str) : (XK → Hp → VK → Prop) → Hp → VK → Prop := fun tl H Q =>
  tl (fun cls d H' => ∀ σ' : L2.St, σ'.length = n → wMix K (fun _ _ _ _ => False) { nx := nxS ret Q, rt := Q } l cls d σ' H') H (fun _ H1 => nxS ret Q [] H1)
theorem pair_gives {X : Cx} {Ng : List Str} {x a q ret : Str} {sg : Scope} {g : Addr} {cdg : Value} {j x1 x2 : Nat} {k0 : ExceptHandler} {ks : List ExceptHandler} {l : List Clause} {p1 p2 p3 p4 p5 p6 p7 p8 : Pos}
    (hs : ∀ f : Addr, (L2.start Ng [V.ref f])[0]? = some (some (V.ref f)))
    (hk : ∀ (s : Shared) (H : Hp), MixOk (cxOf C8.CX0 X.prog X.w X.K X.mg X.base Ng x sg g cdg X.A X.stack s H C8.E0).nox (k0 :: ks) l) :
    GivesTo X Ng x sg g cdg [.Try [.Expr (.Call (.Name a p2) [] [] p3) p5] (k0 :: ks) [] [] p6, .Return (some (.Tuple [.Constant (.str ret) j p1, .Constant .none x2 p7] x1 p8)) p4] a q (TTpair X.K Ng.length l ret) := by
  intro f c' s H Q tl act hc tt
  refine ⟨_, pss_cons (ps_try_mix (Wout := fun _ _ _ _ => False) (l := l) rfl rfl takes_no
    (fun W pn xe tk _ => pss_one (ps_expr (act (fun cls d σ H => σ.length = Ng.length → W cls d σ H) pn xe (fun cls d H' => ∀ σ' : L2.St, σ'.length = Ng.length → W cls d σ' H') p2 p3 (takes_len tk) (fun cls d σ' H' h e => h σ' e))))
    (hk s H)) (pss_one (ps_ret (pe_tup (pa_cons pe_str (pa_cons pe_non pa_nil))))), ?_⟩
  exact ⟨hs f, hc, tt⟩
end LamX

set_option maxRecDepth 100000
set_option maxHeartbeats 4000000
/-! A lambda with one parameter: its frame, and its call by what a parameter of another def holds. -/
namespace LamX
open PySem PySem.Spec PyProof.Rows L2
/-- captured names, globals and the one parameter q -/
structure Lam1 (q : Str) (sc scope : Scope) : Prop where
  kd : scope.kind = .function
  nc : scope.isCoroutine = false
  ng : scope.isGenerator = false
  cellfree : ∀ y ∈ scope.names, y.2 ≠ .cell
  only : ∀ y, scope.names.lookup y = some .local → y = q
  par : scope.names.lookup q = some .local
  up : ∀ y ∈ scope.names, y.2 = .free → sc.names.lookup y.1 = some .cell ∨ sc.names.lookup y.1 = some .free
def lam1B (q : Str) (sc scope : Scope) : Bool :=
  decide (scope.kind = .function) && (!scope.isCoroutine && (!scope.isGenerator && (decide (scope.names.lookup q = some .local) &&
    (scope.names.all fun y => !decide (y.2 = .cell) && ((!decide (y.2 = .local) || decide (y.1 = q)) && (!decide (y.2 = .free) || (decide (sc.names.lookup y.1 = some .cell) || decide (sc.names.lookup y.1 = some .free))))))))
theorem lam1_by {q : Str} {sc scope : Scope} (h : lam1B q sc scope = true) : Lam1 q sc scope := by
  simp only [lam1B, Bool.and_eq_true, Bool.or_eq_true, Bool.not_eq_true', decide_eq_true_eq, decide_eq_false_iff_not, List.all_eq_true] at h
  obtain ⟨a1, a2, a3, a4, a5⟩ := h
  refine ⟨a1, a2, a3, fun y hy => (a5 y hy).1, fun y e => ?_, a4, fun y hy e => ?_⟩
  · rcases (a5 _ (PySem.mem_of_lookup e)).2.1 with z | z
    · exact absurd rfl z
    · exact z
  · rcases (a5 y hy).2.2 with z | z
    · exact absurd e z
    · exact z
theorem Lam1.cells {q : Str} {X : Cx} {scope : Scope} (L : Lam1 q X.env.scope scope) (ok : X.Ok) (y : Str × NameKind) (hy : y ∈ scope.names) (e : y.2 = .free) : ∃ c, X.env.cells.lookup y.1 = some c :=
  (L.up y hy e).elim (fun k => ok.has _ (.inl k)) (fun k => ok.has _ (.inr k))
section
variable {X : Cx} {pins : List (Addr × Obj)} {σ : L2.St} {H HZ : Hp} {s s1 : Shared}
/-- the frame of the lambda, just entered -/
theorem lam1_start {A : Around} {outer : List Env} {E : XK} {scope : Scope} {f c' : Addr} {h₁ : Heap} {tk : Nat} {q : Str} {i : Nat} {x : V} {u : Value}
    (I : Inv X pins σ H s) (L : Lam1 q X.env.scope scope) (nd : X.N.Nodup) (hi : X.N[i]? = some q) (rx : L2.RelV x u) (e0 : Env0 X.prog X.w X.K X.mg X.base A outer s1 HZ)
    (hd : A.handled = none) (un : Un (frs X.stack) [] H HZ s.heap s1.heap) (hns : h₁.Ns s1.heap.objs.size fun y => ([(q, u)] : List (Str × Value)).reverse.lookup y)
    (kp : ∀ b o, s1.heap.get? b = some o → h₁.get? b = some o) : Inv (lamCx X A outer s1 HZ E scope f c') [] (σ.set i (some x)) HZ { s1 with heap := h₁, toks := tk } := by
  have own : ∀ {y : Str}, scope.names.lookup y = some .free → ∃ c, (cloFrom X.env.cells scope.names []).lookup y = some c := fun {y} hl =>
    mem_lookup (cloFrom_has (cells := X.env.cells) (acc := []) (show (y, NameKind.free) ∈ scope.names from PySem.mem_of_lookup hl))
  have src : ∀ {y : Str} {c : Addr}, (cloFrom X.env.cells scope.names []).lookup y = some c → X.env.cells.lookup y = some c := fun {y c} e => by
    rcases cloFrom_mem (PySem.mem_of_lookup e) with z | ⟨m, z⟩
    · cases z
    · obtain ⟨c1, z1⟩ := L.cells I.ok _ m rfl
      have z2 : X.env.cells.lookup y = some c1 := z1
      rw [z2] at z
      rw [z2, z]
      rfl
  have still : ∀ {c : Addr} {v : Option Value}, H c = none → s.heap.IsCell c v → h₁.IsCell c v := fun {c v} n z => by
    obtain ⟨o, ho, hv⟩ := z
    obtain ⟨sl, z2⟩ := un.any ho n (by simp)
    exact ⟨_, kp _ _ z2, hv⟩
  have nx : ∀ b : Addr, b ∉ (lamCx X A outer s1 HZ E scope f c').ex := fun b z => absurd (show b ∈ ([] : List Addr) from z) (by simp)
  have okL : (lamCx X A outer s1 HZ E scope f c').Ok := by
    refine ⟨e0.mod, L.kd, rfl, rfl, Nat.le_refl _, fun y z c a b => I.ok.inj y z c (src a) (src b), fun y hy => ?_, fun y c z _ => Bool.noConfusion (show false = true from z), fun _ => hd, Around.frames_deeper e0.frames,
      .inr ⟨rfl, rfl⟩, fun b z => absurd z (nx b), e0.bs, e0.bsz, fun b _ _ => nx b, fun b z => absurd z (nx b), e0.funs, e0.frf⟩
    rcases (show scope.names.lookup y = some .cell ∨ scope.names.lookup y = some .free from hy) with z | z
    · exact absurd rfl (L.cellfree _ (PySem.mem_of_lookup z))
    · exact own z
  refine ⟨okL, rfl, e0.bare, Un.kept kp, ⟨_, hns, fun j y v e1 e2 e3 => ?_⟩, fun y c e => ?_, e0.hok.fresh (Nat.le_refl _), fun y c e => ?_, fun p hp => absurd (show p ∈ ([] : List (Addr × Obj)) ++ [] from hp) (by simp),
    e0.hok.kept kp, by rw [List.length_set]; exact I.len⟩
  · rcases (show Vis scope y from e3) with k | k | k
    · have ey : y = q := L.only y k
      subst ey
      have ij : i = j := nodup_ix nd hi e1
      subst ij
      have lt : i < σ.length := by
        rw [I.len]
        exact (List.getElem?_eq_some_iff.mp hi).1
      rw [List.getElem?_set_self lt] at e2
      cases e2
      exact ⟨u, rx, .inl ⟨k, by simp⟩⟩
    · exact absurd rfl (L.cellfree _ (PySem.mem_of_lookup k))
    · have ne : i ≠ j := fun z => by
        subst z
        have e1' : X.N[i]? = some y := e1
        rw [hi] at e1'
        cases e1'
        rw [L.par] at k
        cases k
      rw [List.getElem?_set_ne ne] at e2
      obtain ⟨m, _, look⟩ := I.loc
      have kf := L.up _ (PySem.mem_of_lookup k) rfl
      obtain ⟨w', r, z⟩ := look j y v e1 e2 (kf.elim (fun a => .inr (.inl a)) (fun a => .inr (.inr a)))
      obtain ⟨c2, h2⟩ := own k
      refine ⟨w', r, .inr ⟨.inr k, c2, h2, ?_⟩⟩
      rcases z with ⟨a, _⟩ | ⟨_, c3, b, z⟩
      · have a' : X.env.scope.names.lookup y = some .local := a
        rcases kf with k2 | k2 <;> rw [show X.env.scope.names.lookup y = _ from k2] at a' <;> cases a'
      · have b2 := src h2
        rw [b] at b2
        cases b2
        exact still (I.freeC y _ b) z
  · obtain ⟨w', z⟩ := I.cell y c (src e)
    exact ⟨w', still (I.freeC y c (src e)) z⟩
  · obtain ⟨v, o, ho, _⟩ := I.cell y c (src e)
    exact un.free c o ho (I.freeC y c (src e)) (by simp)
/-- the object of a lambda with defaults dV -/
abbrev lamD (X : Cx) (params : Arguments) (body : Expr) (scope : Scope) (dV doc pm : Value) (c' : Addr) (ctv : Value) : Obj :=
  PySem.W.kdv_obj "<lambda>" (X.env.qual ++ "<lambda>") params (.expr body) scope (cloFrom X.env.cells scope.names []) dV doc pm c' ctv
abbrev lamDF (X : Cx) (params : Arguments) (body : Expr) (scope : Scope) (dV doc pm : Value) (c' : Addr) (ctv : Value) : FuncData :=
  PySem.W.kdv_fn "<lambda>" (X.env.qual ++ "<lambda>") params (.expr body) scope (cloFrom X.env.cells scope.names []) dV doc pm (.ref c') ctv
/-- it is called, in a frame entered from its home at s -/
theorem lam1_code {A : Around} {outer : List Env} {Q : VK} {E : XK} {scope : Scope} {f c' : Addr} {q : Str} {i k : Nat} {x : V} {u dV doc pm ctv : Value} {params : Arguments} {body : Expr} {tb : TE} {args : Args}
    (I : Inv X pins σ H s) (L : Lam1 q X.env.scope scope) (nd : X.N.Nodup) (hi : X.N[i]? = some q) (rx : L2.RelV x u) (e0 : Env0 X.prog X.w X.K X.mg X.base A outer s1 HZ) (hr : Room (k + 1) A)
    (un : Un (frs X.stack) [] H HZ s.heap s1.heap) (of : s1.heap.get? f = some (lamD X params body scope dV doc pm c' ctv)) (hc : HZ c' = some (CodeO c' (X.env.qual ++ "<lambda>"))) (lim : s1.heap.NoLimit)
    (hb : BindsTo s1 (lamDF X params body scope dV doc pm c' ctv) args [(q, u)])
    (hbody : Room k (A.deeper (lamEnv X scope s1.heap.objs.size f c')) → PE (lamCx X A outer s1 HZ E scope f c') body tb) (ht : tb (σ.set i (some x)) HZ Q) :
    codeAny (model X.prog X.w) A (.call (.ref f) args) (CR (L2.CX X.prog X.w) outer X.prog X.w HZ s1 Q E) s1 := by
  obtain ⟨⟨oc, vs, t, hoc, hdc, hvc⟩, _, _⟩ := e0.hok c' _ hc
  refine PySem.W.kla_callFunE hr.depth of rfl L.nc L.ng rfl ⟨c', oc, vs, t, rfl, hoc, hdc, hvc⟩ (hb _ _ _ _ ?_)
  refine wpAny_newFunctionEnv L.cellfree (fun y hy => ?_) (fun h₁ hns hsb => ⟨lim.fresh _ hsb, ?_⟩) L.kd
  · cases List.mem_singleton.mp hy
    exact L.par
  show codeAny _ _ (.expr body (lamEnv X scope s1.heap.objs.size f c')) _ _
  have kp : ∀ b o, s1.heap.get? b = some o → h₁.get? b = some o := fun b o e => hsb.extBut b o (Nat.ne_of_lt (Heap.lt_size e)) (Heap.get?_push_of_some _ e)
  have J := lam1_start (A := A) (outer := outer) (E := E) (f := f) (c' := c') (tk := s1.toks + ([(q, u)] : List (Str × Value)).length) I L nd hi rx e0 hr.hd un hns kp
  refine PySem.W.kla_codeExpr (wpAny_mono ((hbody (hr.deeper _)).run [] _ _ HZ Q J ht) (fun v s' z => ?_) fun e s' z => z)
  obtain ⟨w', H', J', rv, z⟩ := z
  exact ⟨w', H', J'.os, J'.bare, J'.base, J'.hok, rv, z⟩
end
end LamX

set_option maxRecDepth 100000
set_option maxHeartbeats 4000000
namespace K55
open PySem PySem.Spec PyProof.Rows L2 He VH RZ
/-! what is told of a refusal -/
abbrev sSaid : Stmt := top 110
abbrev nSaid : List Str := ["_law_ask", "e"]
abbrev FnSaid (K : PySem.W.Frag) (fd : FuncData) : Prop := FnP K "_law_said" sSaid (ga K "_law_said") fd
theorem bSaid {K : PySem.W.Frag} {fd : FuncData} (F : FnSaid K fd) : Binds K fd ["_law_ask"] [] := FunD.bindsN F fun _ _ _ _ _ _ us hl => match us, hl with | [_], _ => rfl
theorem scSaid : FnScope nSaid ["_law_ask"] (defScope sSaid) := ⟨rfl, rfl, rfl, by decide +kernel, rfl, by decide +kernel, by decide +kernel⟩
def clauses (K : PySem.W.Frag) : List Clause :=
  [(.ref (ga K "NoRollout"), some 1, fun a cls d => tRet (tTup (tCons (tC (.str "rollout")) (tCons (tXf a cls d (ga K "NoRollout") "index" (tVar 1)) tNil)))),
   (.ref (ga K "NoNumber"), some 1, fun a cls d => tRet (tTup (tCons (tC (.str "number")) (tCons (tXf a cls d (ga K "NoNumber") "part" (tVar 1)) tNil)))),
   (.ref (ga K "NoWord"), some 1, fun a cls d => tRet (tTup (tCons (tC (.str "word")) (tCons (tXf a cls d (ga K "NoWord") "word" (tVar 1)) tNil)))),
   (.ref (ga K "FillError"), none, fun _ _ _ => tRet (tTup (tCons (tC (.str "other")) (tCons (tC .non) tNil))))]
theorem gives {X : Cx} {g : Addr} {cdg : Value} {q : Str} (T : Txt X.K X.mg X.w) :
    LamX.GivesTo X nSaid "_law_said" (defScope sSaid) g cdg (defBody sSaid) "_law_ask" q (LamX.TTpair X.K 2 (clauses X.K) "none") := by
  refine LamX.pair_gives (l := clauses X.K) (fun f => rfl) (fun s H => .named (i := 1) scSaid.nd rfl rfl ⟨rfl, by decide, .inl T.m_NoRollout⟩ (fun a oe cls d pn hz hf => pss_one (ps_ret (pe_tup (pa_cons pe_str (pa_cons (pe_xf T.x_NoRollout.xf (T.x_NoRollout.no "index" (by simp)) hz hf (pv 1)) pa_nil)))))
    (.named (i := 1) scSaid.nd rfl rfl ⟨rfl, by decide, .inl T.m_NoNumber⟩ (fun a oe cls d pn hz hf => pss_one (ps_ret (pe_tup (pa_cons pe_str (pa_cons (pe_xf T.x_NoNumber.xf (T.x_NoNumber.no "part" (by simp)) hz hf (pv 1)) pa_nil)))))
    (.named (i := 1) scSaid.nd rfl rfl ⟨rfl, by decide, .inl T.m_NoWord⟩ (fun a oe cls d pn hz hf => pss_one (ps_ret (pe_tup (pa_cons pe_str (pa_cons (pe_xf T.x_NoWord.xf (T.x_NoWord.no "word" (by simp)) hz hf (pv 1)) pa_nil)))))
    (.bare ⟨rfl, by decide, .inl T.m_FillError⟩ (fun a oe cls d pn hz hf => pss_one (ps_ret (pe_tup (pa_cons pe_str (pa_cons pe_non pa_nil))))) .nil))))
/-- the wish of _law_said -/
def Wsh (K : PySem.W.Frag) (Q : VK) : XK := fun cls d H' => ∀ σ' : L2.St, σ'.length = 2 → wMix K (fun _ _ _ _ => False) { nx := LamX.nxS "none" Q, rt := Q } (clauses K) cls d σ' H'
section
variable {K : PySem.W.Frag} {mg : Str → Option Value} {w : World} {Q : VK} {H : Hp}
theorem told_ro (T : Txt K mg w) (k : ∀ (H' : Hp) (p : Addr), H p = none → Same H H' → H' p = some (.tup [.str "rollout", .int (-1)]) → Q (.ref p) H') : Rro K (Wsh K Q) H := by
  intro d H' nd s e σ' l2
  match σ', l2 with
  | [v0, v1], _ =>
    refine ⟨true, T.xm "NoRollout" (by simp) "NoRollout" (by simp), fun _ a ha => ?_, fun q => Bool.noConfusion q⟩
    exact ⟨_, rfl, rfl, rfl, d, _, .int (-1), rfl, e, rfl, (show 2 ≤ sizeLine by decide), fun p hp => k _ p (s.free hp) (s.trans (Same.new hp)) upd_same⟩
theorem told_num (T : Txt K mg w) {u : Str} (k : ∀ (H' : Hp) (p : Addr), H p = none → Same H H' → H' p = some (.tup [.str "number", .str u]) → Q (.ref p) H') : Rnum K (Wsh K Q) H u := by
  intro d H' nd s e σ' l2
  match σ', l2 with
  | [v0, v1], _ =>
    refine ⟨false, T.xm "NoNumber" (by simp) "NoRollout" (by simp), fun q => Bool.noConfusion q, fun _ => ?_⟩
    refine ⟨true, T.xm "NoNumber" (by simp) "NoNumber" (by simp), fun _ a ha => ?_, fun q => Bool.noConfusion q⟩
    exact ⟨_, rfl, rfl, rfl, d, _, .str u, rfl, e, rfl, (show 2 ≤ sizeLine by decide), fun p hp => k _ p (s.free hp) (s.trans (Same.new hp)) upd_same⟩
theorem told_wd (T : Txt K mg w) {x : V} (k : ∀ (H' : Hp) (p : Addr), H p = none → Same H H' → H' p = some (.tup [.str "word", x]) → Q (.ref p) H') : Rwd K (Wsh K Q) H x := by
  intro d H' nd s e σ' l2
  match σ', l2 with
  | [v0, v1], _ =>
    refine ⟨false, T.xm "NoWord" (by simp) "NoRollout" (by simp), fun q => Bool.noConfusion q, fun _ => ?_⟩
    refine ⟨false, T.xm "NoWord" (by simp) "NoNumber" (by simp), fun q => Bool.noConfusion q, fun _ => ?_⟩
    refine ⟨true, T.xm "NoWord" (by simp) "NoWord" (by simp), fun _ a ha => ?_, fun q => Bool.noConfusion q⟩
    exact ⟨_, rfl, rfl, rfl, d, _, x, rfl, e, rfl, (show 2 ≤ sizeLine by decide), fun p hp => k _ p (s.free hp) (s.trans (Same.new hp)) upd_same⟩
end
/-- the same object, or flat things -/
def DSm : Eqv := fun x y _ => ∃ a : Addr, x = .ref a ∧ y = .ref a
theorem mon_sm : Mon DSm := fun _ _ _ _ _ d => d
theorem eqG_sm {X : Cx} : EqG X 0 DSm := by
  intro A pins s σ H x y u v sb I rx ry d
  obtain ⟨a, rfl, rfl⟩ := d
  cases rx
  cases ry
  unfold eqBool
  refine wpAny_holding ?_
  show wpAny _ _ (if (Value.ref a == Value.ref a) = true then _ else _) _ _ _
  rw [if_pos (by simp)]
  exact wpAny_bind (wpAny_rule (wpAny_pure ⟨rfl, H, I, Ext.rfl'⟩))
def DS : Eqv := fun x y H => DFlat x y H ∨ DSm x y H
theorem mon_DS : Mon DS := Mon.or mon_flat mon_sm
theorem eqG_DS {X : Cx} : EqG X 0 DS := EqG.or eqG_flat eqG_sm
end K55

set_option maxRecDepth 100000
set_option maxHeartbeats 4000000
/-! != of lists and tuples whose items are equal by own __eq__s. -/
namespace GQ
open PySem PySem.SeqAt
open AutoSeq1 (wpAny_loadPart')
open MeetsSeq MeetsSeq2 MeetsSeq3 SeqRoads2
section
variable {prog : Program} {w : World} {A : Around} {R : Result → Shared → Prop}
theorem ne_loopG (l b : Addr) (N : Nat) (I : Nat → Shared → Prop) (hl : ListI prog w A (fun e s' => R (.error e) s') l b N I)
    (fin : ∀ s, I N s → R (.ok (.ret (.bool false))) s) (k : Nat) :
    ∀ i : Nat, N - i = k → i ≤ N → ∀ s, I i s →
      wpAny (model prog w) A.in1 (Builtin.«list.__eq__.loop» ⟨[.ref l, .ref b, rawInt i, rawInt 3], []⟩) (FinOf prog w A R) (fun e s' => R (.error e) s') s := by
  induction k with
  | zero =>
    intro i hk hi s h
    obtain ⟨items, items2, n, n2, hl1, hb1, hs1, hs2, _⟩ := hl _ _ h
    have hi' : i = N := by omega
    have hR : R (.ok (.ret (.bool false))) s := fin s (hi' ▸ h)
    obtain ⟨hp, g, d, tk, os⟩ := s
    wp_walk using wpAny_loadPart' hl1, wpAny_loadPart' hb1
    have hi1 : items[((i : Nat) : Int).toNat]? = none := by simp; omega
    have hi2 : items2[((i : Nat) : Int).toNat]? = none := by simp; omega
    rw [hi1, hi2]
    wp_walk using wpAny_loadPart' hl1, wpAny_loadPart' hb1
    show R (.ok (.ret (.bool (items.size != items2.size)))) _
    rw [hs1, hs2]
    simpa using hR
  | succ k ih =>
    intro i hk hi s h
    obtain ⟨items, items2, n, n2, hl1, hb1, hs1, hs2, turn⟩ := hl _ _ h
    have hlt : i < items.size := by omega
    have hlt2 : i < items2.size := by omega
    have ht := turn hlt hlt2
    obtain ⟨hp, g, d, tk, os⟩ := s
    wp_walk using wpAny_loadPart' hl1, wpAny_loadPart' hb1
    have hi1 : items[((i : Nat) : Int).toNat]? = some items[i] := by simp [hlt]
    have hi2 : items2[((i : Nat) : Int).toNat]? = some items2[i] := by simp [hlt2]
    have hc : ((i : Int) + 1) = ((i + 1 : Nat) : Int) := by omega
    rw [hi1, hi2]
    refine wpAny_bind (wpAny_mono ht (fun r s2 h2 => ?_) fun _ _ x => x)
    obtain ⟨hr, h2⟩ := h2
    subst hr
    have hrec := ih (i + 1) (by omega) (by omega) s2 h2
    obtain ⟨hp2, g2, d2, tk2, os2⟩ := s2
    wp_walk
    rw [hc]
    exact ⟨plainId_quiet plain_eq_loop _, codeAny_builtin entry_eq_loop (by
      rw [Around.under_plainId plain_eq_loop _]
      exact hrec)⟩
theorem list_neG (l b : Addr) (N : Nat) (I : Nat → Shared → Prop) (hl : ListI prog w A (fun e s' => R (.error e) s') l b N I)
    (fin : ∀ s, I N s → R (.ok (.ret (.bool false))) s) {s : Shared} (h : I 0 s) :
    wpAny (model prog w) A.in1 (Builtin.«list.__ne__» ⟨[.ref l, .ref b], []⟩) (FinOf prog w A R) (fun e s' => R (.error e) s') s := by
  obtain ⟨items, items2, n, n2, hl1, hb1, hs1, hs2, _⟩ := hl _ _ h
  have hrec := ne_loopG (A := A) (R := R) l b N I hl fin _ 0 rfl (Nat.zero_le _) s h
  obtain ⟨hp, g, d, tk, os⟩ := s
  have f3 := AutoSeq1.sub_list_list
  have hne : ¬ (items.size != items2.size) = true := by simp [hs1, hs2]
  wp_walk using wpAny_loadPart' hl1, wpAny_loadPart' hb1
  exact ⟨plainId_quiet plain_eq_loop _, codeAny_builtin entry_eq_loop (by
    rw [Around.under_plainId plain_eq_loop _]
    exact hrec)⟩
theorem tuple_neG (l b : Addr) (items items2 : Array Value) (n n2 : Nat) (dd dd2 : Option Addr) (sl sl2 : Array (Option Value)) (hsz : items.size = items2.size) (I : Nat → Shared → Prop)
    (turn : ∀ i (h1 : i < items.size) (h2 : i < items2.size) s, I i s → wpAny (model prog w) A.in1 (eqBool items[i] items2[i]) (fun r s' => r = true ∧ I (i + 1) s') (fun e s' => R (.error e) s') s)
    (fin : ∀ s, I items.size s → R (.ok (.ret (.bool false))) s) {s : Shared} (hl1 : s.heap.get? l = some { cls := .type "tuple", dict := dd, data := .seq items n, slots := sl }) (hb1 : s.heap.get? b = some { cls := .type "tuple", dict := dd2, data := .seq items2 n2, slots := sl2 }) (h : I 0 s) :
    wpAny (model prog w) A.in1 (Builtin.«tuple.__ne__» ⟨[.ref l, .ref b], []⟩) (FinOf prog w A R) (fun e s' => R (.error e) s') s := by
  have f2 := AutoSeq1.sub_tuple_tuple
  have hZ : (items.toList.zip items2.toList).length = items.size := by simp [hsz]
  have h0 := h
  obtain ⟨hp, g, d, tk, os⟩ := s
  wp_walk using wpAny_loadPart' hl1, wpAny_loadPart' hb1, wpAny_forIn_list _ (fun rest b s' => b.1 = none ∧ ∃ i, rest = (items.toList.zip items2.toList).drop i ∧ i ≤ items.size ∧ I i s') _
  case turn =>
    rintro ⟨y, x⟩ rest b s' ⟨hb', i, hz, hi, hI⟩
    have hlt : i < (items.toList.zip items2.toList).length := by
      rcases Nat.lt_or_ge i (items.toList.zip items2.toList).length with h' | h'
      · exact h'
      · rw [List.drop_of_length_le h'] at hz; cases hz
    have h1 : i < items.size := hZ ▸ hlt
    have h2 : i < items2.size := hsz ▸ h1
    rw [List.drop_eq_getElem_cons hlt] at hz
    injection hz with hyx hrest
    have hy : y = items[i] := by have := congrArg Prod.fst hyx; simpa using this
    have hx : x = items2[i] := by have := congrArg Prod.snd hyx; simpa using this
    subst hy hx
    refine wpAny_bind (wpAny_mono (turn i h1 h2 s' hI) (fun r s2 q2 => ?_) fun _ _ x => x)
    obtain ⟨hr, q2⟩ := q2
    subst hr
    wp_walk
    exact ⟨rfl, i + 1, hrest, h1, q2⟩
  case fin =>
    rintro ⟨b1, b2⟩ s' ⟨hb', i, hz, hi, hI⟩
    simp only at hb'
    subst hb'
    have hge : items.size ≤ i := by
      rcases Nat.lt_or_ge i (items.toList.zip items2.toList).length with h' | h'
      · rw [List.drop_eq_getElem_cons h'] at hz; cases hz
      · exact hZ ▸ h'
    have hi' : i = items.size := by omega
    have hR : R (.ok (.ret (.bool false))) s' := fin s' (hi' ▸ hI)
    wp_walk
    simpa [Builtin.Tuple.tupleCompareSizes, bne, hsz] using hR
  case h =>
    exact ⟨rfl, 0, rfl, Nat.zero_le _, h0⟩
end
section
variable {prog : Program} {w : World} {A : Around} {E : Value → Shared → Prop} {s : Shared}
theorem rcne_listG {l b : Addr} {N : Nat} {Q : Value → Shared → Prop} (hu : A.units < cLine) (I : Nat → Shared → Prop) (hl : ListI prog w A E l b N I)
    (fin : ∀ s, I N s → Q (.bool false) s) (h : I 0 s) : wpAny (model prog w) A (richCompare .NotEq (.ref l) (.ref b)) Q E s := by
  obtain ⟨items, items2, n, n2, hl1, hb1, _, _, _⟩ := hl _ _ h
  refine wpAny_richCompare_same_room (op := .NotEq) ⟨_, hl1, rfl⟩ ⟨_, hb1, rfl⟩ F.slot_list_ne (call_here F.slot_list_ne ⟨_, hl1, rfl⟩ F.entry_list_ne (F.args_list_ne_2 _ _) ?_) hu
  exact list_neG (R := wants (fun v s' => v ≠ .notImplemented ∧ Q v s') E) l b N I hl (fun s' q => ⟨(fun x => nomatch x), fin s' q⟩) h
theorem rcne_tupG {l b : Addr} {items items2 : Array Value} {Q : Value → Shared → Prop} (hsz : items.size = items2.size) (hu : A.units < cLine) (I : Nat → Shared → Prop)
    (hl : s.heap.IsTuple l items) (hb : s.heap.IsTuple b items2)
    (turn : ∀ i (h1 : i < items.size) (h2 : i < items2.size) s, I i s → wpAny (model prog w) A.in1 (eqBool items[i] items2[i]) (fun r s' => r = true ∧ I (i + 1) s') E s)
    (fin : ∀ s, I items.size s → Q (.bool false) s) (h : I 0 s) : wpAny (model prog w) A (richCompare .NotEq (.ref l) (.ref b)) Q E s := by
  obtain ⟨⟨cls, dd, data, sl⟩, ho, hc, n, hd⟩ := id hl
  obtain ⟨⟨cls2, dd2, data2, sl2⟩, ho2, hc2, n2, hd2⟩ := id hb
  simp only at hc hd hc2 hd2
  subst hc hd hc2 hd2
  refine wpAny_richCompare_same_room (op := .NotEq) ⟨_, ho, rfl⟩ ⟨_, ho2, rfl⟩ F.slot_tuple_ne (call_here F.slot_tuple_ne ⟨_, ho, rfl⟩ F.entry_tuple_ne (F.args_tuple_ne_2 _ _) ?_) hu
  exact tuple_neG (R := wants (fun v s' => v ≠ .notImplemented ∧ Q v s') E) l b items items2 n n2 dd dd2 sl sl2 hsz I turn (fun s' q => ⟨(fun x => nomatch x), fin s' q⟩) ho ho2 h
end
end GQ
namespace L2
open PySem PySem.Spec PyProof.Rows
/-- != gives False for what D says, and only makes objects -/
def RnG (X : Cx) (n : Nat) (D : Eqv) : Prop :=
  ∀ (A : Around) (pins : List (Addr × Obj)) (s : Shared) (σ : St) (H : Hp) (x y : V) (u v : Value), Sub X n A → Inv X pins σ H s → RelV x u → RelV y v → D x y H →
    wpAny (model X.prog X.w) A (richCompare .NotEq u v) (fun r s' => r = .bool false ∧ ∃ H', Inv X pins σ H' s' ∧ Ext H H') X.xe s
section
variable {X : Cx} {n m : Nat} {D D' : Eqv}
theorem rnG_list (hD : Mon D) (h : EqG X n D) : RnG X (n + 1) (DList D) := by
  intro A pins s σ H x y u v sb I rx ry d
  obtain ⟨a, b, xs, ys, rfl, rfl, ha, hb, p⟩ := d
  cases rx
  cases ry
  refine GQ.rcne_listG (N := xs.length) sb.room.units0 (fun _ s' => LoopI X pins σ H s') (fun i s' q => ?_) (fun s' q => ⟨rfl, q⟩) ⟨H, I, Ext.rfl'⟩
  obtain ⟨H1, I1, e1⟩ := id q
  obtain ⟨z, its, k, r, e⟩ := I1.hok a _ (e1 _ _ ha)
  obtain ⟨z2, its2, k2, r2, e2⟩ := I1.hok b _ (e1 _ _ hb)
  refine ⟨its.toArray, its2.toArray, k, k2, e, e2, by rw [List.size_toArray, ← r.length], by rw [List.size_toArray, ← r2.length, ← p.1], fun h1 h2 => ?_⟩
  exact turnG hD h sb p r r2 i h1 h2 s' q
theorem rnG_tup (hD : Mon D) (h : EqG X n D) : RnG X (n + 1) (DTup X.K D) := by
  intro A pins s σ H x y u v sb I rx ry d
  obtain ⟨a, b, xs, ys, rfl, rfl, ha, hb, p⟩ := d
  cases rx
  cases ry
  obtain ⟨its, r, e, z⟩ := I.tuple ha
  obtain ⟨its2, r2, e2, z2⟩ := I.tuple hb
  have hsz : its.toArray.size = its2.toArray.size := by rw [List.size_toArray, List.size_toArray, ← r.length, ← r2.length]; exact p.1
  exact GQ.rcne_tupG hsz sb.room.units0 (fun _ s' => LoopI X pins σ H s') e e2 (fun i h1 h2 s' q => turnG hD h sb p r r2 i h1 h2 s' q) (fun s' q => ⟨rfl, q⟩) ⟨H, I, Ext.rfl'⟩
/-- the same thing -/
def DSm : Eqv := fun x y _ => x = y ∧ plainV x = true
theorem mon_sm : Mon DSm := fun _ _ _ _ _ d => d
theorem eqG_sm : EqG X 0 DSm := by
  intro A pins s σ H x y u v sb I rx ry d
  obtain ⟨rfl, f⟩ := d
  exact eqAt_plain (A := A) (s := s) rx ry f X.prog X.w X.xe _ ⟨rfl, H, I, Ext.rfl'⟩
theorem Prs.sm {xs : List V} {H : Hp} (h : ∀ v ∈ xs, plainV v = true) : Prs DSm xs xs H := ⟨rfl, fun i x y h1 h2 => by
  rw [h1] at h2
  cases h2
  exact ⟨rfl, h _ (List.mem_of_getElem? h1)⟩⟩
/-- x != y as an expression -/
def rNeG (D : Eqv) : R2 := fun x y H Q => D x y H ∧ ∀ H', Ext H H' → Q (.bl false) H'
theorem op_neG (h : RnG X n D) (hr : Room n X.A) : OpR X (compareOp .NotEq) (rNeG D) := by
  intro pins s σ H x y v u Q I rx ry hq
  obtain ⟨d, q⟩ := hq
  show wpAny (model X.prog X.w) X.A (richCompare .NotEq v u) (EP X pins σ Q) X.xe s
  refine wpAny_mono (h X.A pins s σ H x y v u ⟨hr, rfl⟩ I rx ry d) (fun r s' z => ?_) fun _ _ x => x
  obtain ⟨hr', H', I', e⟩ := z
  subst hr'
  exact ⟨.bl false, H', I', rfl, q H' e⟩
end
end L2

set_option maxRecDepth 100000
set_option maxHeartbeats 4000000
/-! A def called by keywords alone: f(k = v, ..). -/
namespace L2
open PySem PySem.Spec PyProof.Rows
section
variable {X : Cx} {CX : CXT} {f : Addr} {k : Nat} {fd : FuncData} {x : Str} {ps ks : List Str} {sp : Sp} {E : XK} {kws : List Keyword} {tk : TA} {p pos : Pos} {g : List Value → List Value → List Value} {gV : List V → List V → List V}
def tCallN0 (m : Nat) (sp : Sp) (gV : List V → List V → List V) (E : XK) (tk : TA) : TE := fun σ H Q => tk σ H fun zs H2 => zs.length = m ∧ sp (gV [] zs) H2 Q E
theorem pe_callN0 (F : FnOk X.prog X.w X.K X.mg X.base CX k f fd ps sp) (hr : Room k X.A) (hg : Gl X x) (hm : X.mg x = some (.ref f)) (hk : PySem.W.keepIn X.K (.ref f) = true) (hb : KBn X.K fd ps 0 ks g gV) (hx : Passes CX X E) (hkw : PK X kws tk)
    (hall : (backToKw pos (keywordEach kws X.env)).all (·.1.isSome) = true := by rfl) (hks : (backToKw pos (keywordEach kws X.env)).filterMap (·.1) = ks := by rfl) (hdb : (x == ("__debug__" : Str)) = false := by decide)
    (hpl : ((backTo pos (starEach [] X.env)).any (·.1) || (backToKw pos (keywordEach kws X.env)).any (·.1.isNone)) = false := by rfl) :
    PE X (.Call (.Name x p) [] kws pos) (tCallN0 ks.length sp gV E tk) := by
  refine ⟨fun pins s σ H Q I h => ?_⟩
  refine wpAny_Call_Name_kw (ld_glob I hg hm ?_ hdb)
  refine PySem.W.callWith_KW0 (h₀ := X.base) I.ok.mod.kin hk hall (thn (hkw.run pos pins s σ H _ I h) fun ws s2 hh => ?_) hpl
  obtain ⟨zs, H2, I2, rz, l2, q2⟩ := hh
  refine ⟨I2.kIn, ?_⟩
  rw [hks]
  exact run_fnN (us := []) (vs := []) F hr hb hx I2 .nil rz rfl l2 q2
end
end L2


set_option maxRecDepth 100000
set_option maxHeartbeats 4000000
/-! A lambda made and kept: its function object as a pin. -/
namespace LamX
open PySem PySem.Spec PyProof.Rows L2
theorem inv_pin {X : Cx} {pins : List (Addr × Obj)} {σ : L2.St} {H : Hp} {s : Shared} (I : Inv X pins σ H s) {f : Addr} {o : Obj} (at_ : s.heap.get? f = some o) (n : H f = none) (nf : f ∉ frs X.stack) (nl : f ≠ X.env.locals)
    (nc : ∀ v : Option Value, o.data ≠ .cell v) : Inv X ((f, o) :: pins) σ H s := by
  refine ⟨I.ok, I.os, I.bare, I.base, I.loc, I.cell, I.free, I.freeC, fun p hp => ?_, I.hok, I.len⟩
  have go : p = (f, o) ∨ p ∈ X.pn ++ pins := by
    rcases List.mem_append.mp hp with h | h
    · exact .inr (List.mem_append.mpr (.inl h))
    · rcases List.mem_cons.mp h with h | h
      · exact .inl h
      · exact .inr (List.mem_append.mpr (.inr h))
  rcases go with rfl | h
  · refine ⟨at_, n, nl, fun h => nf ?_, nc⟩
    rcases I.ok.stk with e | ⟨e, _⟩
    · rw [e]; exact h
    · rw [e]
      obtain ⟨x, hx, q⟩ := List.mem_filterMap.mp h
      exact List.mem_filterMap.mpr ⟨x, List.mem_cons_of_mem _ hx, q⟩
  · exact I.pin p h
theorem not_locals {X : Cx} {pins : List (Addr × Obj)} {σ : L2.St} {H : Hp} {s : Shared} (I : Inv X pins σ H s) {f : Addr} {o : Obj} {fd : FuncData} (at_ : s.heap.get? f = some o) (d : o.data = .func fd) : f ≠ X.env.locals := by
  intro e
  subst e
  obtain ⟨m, ⟨o', es, ep, g, dd, _⟩, _⟩ := I.loc
  rw [at_] at g
  cases g
  rw [d] at dd
  cases dd
section
variable {X : Cx} {T : List (Addr × Str)} {c P : Addr} {params : Arguments} {body : Expr} {scope : Scope} {pos : Pos}
/-- the object of a lambda -/
abbrev lamO (X : Cx) (params : Arguments) (body : Expr) (scope : Scope) (pm : Value) (c' : Addr) (ctv : Value) : Obj :=
  PySem.W.kla_obj "<lambda>" (X.env.qual ++ "<lambda>") params body scope (cloFrom X.env.cells scope.names []) pm c' ctv
/-- a lambda without defaults, evaluated: a new pin -/
theorem lam_pin {pins : List (Addr × Obj)} {σ : L2.St} {H : Hp} {s : Shared} {E : Value → Shared → Prop} {Q : Value → Shared → Prop} (I : Inv X pins σ H s) (TB : TabB X.base X.mg c P) (hcode : X.env.code = .ref c)
    (hm : (P, X.env.qual ++ "<lambda>") ∈ T) (hu : ∀ p ∈ T, p.1 = P → p.2 = X.env.qual ++ "<lambda>") (t : Tabs T H) (hd : defaultsOf params X.env = ([], []))
    (hfree : ∀ y ∈ scope.names, y.2 = .free → ∃ c, X.env.cells.lookup y.1 = some c)
    (k : ∀ (f c' : Addr) (pm ctv : Value) (H1 : Hp) (s' : Shared), Inv X ((f, lamO X params body scope pm c' ctv) :: pins) σ H1 s' → ExtN H H1 → Tabs T H1 →
      H1 c' = some (CodeO c' (X.env.qual ++ "<lambda>")) → f ∉ frs X.stack → Q (.ref f) s') :
    wpAny (model X.prog X.w) X.A (eval (.Lambda params body scope pos) X.env) Q E s := by
  refine lam_make2 I TB hcode hm hu t hd hfree fun f c' pm ctv H1 s' I1 ex t1 at_ n nf hc => ?_
  exact k f c' pm ctv H1 s' (inv_pin I1 at_ n nf (not_locals I1 at_ rfl) (fun _ z => by cases z)) ex t1 hc nf
end
end LamX

set_option maxRecDepth 100000
set_option maxHeartbeats 4000000
/-! A lambda with one parameter, called in a def that got it: a() by its default, a(e) by a value. -/
namespace LamX
open PySem PySem.Spec PyProof.Rows L2
section
variable {X : Cx} {pins : List (Addr × Obj)} {σ : L2.St} {H : Hp} {s : Shared}
/-- the context of the def that got it -/
abbrev gotCx (X : Cx) (CXg : CXT) (Ng : List Str) (qg : Str) (sg : Scope) (g : Addr) (cdg : Value) (s : Shared) (H : Hp) (Eg : XK) (pn : List (Addr × Obj)) (xe : Value → Shared → Prop) : Cx :=
  (cxOf CXg X.prog X.w X.K X.mg X.base Ng qg sg g cdg X.A X.stack s H Eg).tr pn xe
theorem act_end {CXg : CXT} {Eg : XK} {Ng : List Str} {qg : Str} {sg : Scope} {g : Addr} {cdg : Value} {pn : List (Addr × Obj)} {xe : Value → Shared → Prop} {W : WX} {E : XK} {Q : VK} {pinsZ : List (Addr × Obj)} {σZ : L2.St} {H1 : Hp} {s1 : Shared} {f : Addr} {args : List Value}
    (tk : Takes (gotCx X CXg Ng qg sg g cdg s H Eg pn xe) W) (hW : ∀ cls d σ' H', E cls d H' → W cls d σ' H') (I1 : Inv (gotCx X CXg Ng qg sg g cdg s H Eg pn xe) pinsZ σZ H1 s1)
    (rc : codeAny (model X.prog X.w) (X.A.deeper (envOfC qg sg s.heap.objs.size g cdg)) (.call (.ref f) ⟨args, []⟩) (CR (L2.CX X.prog X.w) (envOfC qg sg s.heap.objs.size g cdg :: X.stack) X.prog X.w H1 s1 Q E) s1) :
    wpAny (model X.prog X.w) (X.A.deeper (envOfC qg sg s.heap.objs.size g cdg)) (call (.ref f) args) (EP (gotCx X CXg Ng qg sg g cdg s H Eg pn xe) pinsZ σZ Q) xe s1 := by
  have hx : Passes (L2.CX X.prog X.w) (gotCx X CXg Ng qg sg g cdg s H Eg pn xe) E := passes_call tk hW
  refine wpAny_call (codeAny_mono rc fun r s' z => ?_)
  cases r with
  | error e => exact hx pinsZ σZ H1 s1 e s' I1 z
  | ok fl =>
    cases fl with
    | ret u => exact I1.after z
    | next => exact False.elim z
    | brk => exact False.elim z
    | cont => exact False.elim z
/-- a() -/
theorem pe_act1d {CXg : CXT} {Eg : XK} {Ng : List Str} {qg : Str} {sg : Scope} {g f c' T : Addr} {cdg doc pm ctv : Value} {params : Arguments} {body : Expr} {scope : Scope} {k i : Nat} {a q : Str} {iq : Nat} {pn : List (Addr × Obj)} {xe : Value → Shared → Prop} {W : WX} {E : XK} {tb : TE} {p1 p2 : Pos} {x : V}
    (I : Inv X pins σ H s) (L : Lam1 q X.env.scope scope) (nd : X.N.Nodup) (hiq : X.N[iq]? = some q) (hf : s.heap.get? f = some (lamD X params body scope (.ref T) doc pm c' ctv)) (hfn : H f = none) (hfr : f ∉ frs X.stack) (hT : H T = some (.tup [x]))
    (hbind : ∀ (n : Str) (cl : List (Str × Addr)) (doc pm cv ctv : Value), ∃ kk : Option (Array Value) → Sem (List (Str × Value)), bindArgs (PySem.W.kdv_fn "<lambda>" n params (.expr body) scope cl (.ref T) doc pm cv ctv) ⟨[], []⟩ = seqItems? (.ref T) >>= kk ∧ ∀ u, kk (some #[u]) = pure [(q, u)])
    (tk : Takes (gotCx X CXg Ng qg sg g cdg s H Eg pn xe) W) (hW : ∀ cls d σ' H', E cls d H' → W cls d σ' H') (hr : Room (k + 1) (X.A.deeper (envOfC qg sg s.heap.objs.size g cdg)))
    (hbody : ∀ (A : Around) (outer : List Env) (s : Shared) (H : Hp), Room k (A.deeper (lamEnv X scope s.heap.objs.size f c')) → PE (lamCx X A outer s H E scope f c') body tb)
    (hN : Ng[i]? = some a) (hv : Vis sg a) (hd : (a == ("__debug__" : Str)) = false := by decide) (hcd : (a == ("__classdict__" : Str)) = false := by decide) :
    PE (gotCx X CXg Ng qg sg g cdg s H Eg pn xe) (.Call (.Name a p1) [] [] p2)
      (fun σZ HZ Q => σZ[i]? = some (some (.ref f)) ∧ HZ c' = some (CodeO c' (X.env.qual ++ "<lambda>")) ∧ tb (σ.set iq (some x)) HZ Q) := by
  refine ⟨fun pinsZ sZ σZ HZ Q IZ h => ?_⟩
  obtain ⟨hs, hc, ht⟩ := h
  refine wpAny_Call_Name_kw (thn ((pe_var (pos := p1) (i := i) hN hv hd hcd).run pinsZ sZ σZ HZ (fun v H1 => v = .ref f ∧ H1 = HZ) IZ ⟨.ref f, hs, rfl, rfl⟩) fun u s1 ⟨v, H1, I1, r1, q1⟩ => ?_)
  obtain ⟨rfl, rfl⟩ := q1
  obtain rfl : u = Value.ref f := r1
  have of1 : s1.heap.get? f = some (lamD X params body scope (.ref T) doc pm c' ctv) := I1.base.keep f _ hf hfn hfr (fun z => nomatch (show f ∈ ([] : List Addr) from z))
  refine PySem.W.callWith_F0 ⟨_, _, _, _, of1⟩ (act_end tk hW I1 ?_)
  have hT1 : H1 T = some (.tup [x]) := I1.base.tups T _ hT
  obtain ⟨_, its, rv, oT, eT, _, n, dT⟩ := I1.hok T _ hT1
  cases rv with
  | @cons _ ux _ _ rx rn =>
  cases rn
  obtain ⟨kk, hk1, hk2⟩ := hbind (X.env.qual ++ "<lambda>") (cloFrom X.env.cells scope.names []) doc pm (.ref c') ctv
  exact lam1_code I L nd hiq rx I1.env0 hr I1.base of1 hc I1.nolimit (PySem.BindsTo.of_defaults rfl eT dT hk1 (hk2 ux)) (fun h2 => hbody _ _ s1 H1 h2) ht
/-- a(e) -/
theorem pe_act1a {CXg : CXT} {Eg : XK} {Ng : List Str} {qg : Str} {sg : Scope} {g f c' : Addr} {cdg dV doc pm ctv : Value} {params : Arguments} {body e : Expr} {scope : Scope} {k i : Nat} {a q : Str} {iq : Nat} {pn : List (Addr × Obj)} {xe : Value → Shared → Prop} {W : WX} {E : XK} {tb te : TE} {p1 p2 : Pos}
    (I : Inv X pins σ H s) (L : Lam1 q X.env.scope scope) (nd : X.N.Nodup) (hiq : X.N[iq]? = some q) (hf : s.heap.get? f = some (lamD X params body scope dV doc pm c' ctv)) (hfn : H f = none) (hfr : f ∉ frs X.stack)
    (hbind : ∀ (n : Str) (cl : List (Str × Addr)) (doc pm cv ctv u : Value), bindArgs (PySem.W.kdv_fn "<lambda>" n params (.expr body) scope cl dV doc pm cv ctv) ⟨[u], []⟩ = pure [(q, u)])
    (tk : Takes (gotCx X CXg Ng qg sg g cdg s H Eg pn xe) W) (hW : ∀ cls d σ' H', E cls d H' → W cls d σ' H') (hr : Room (k + 1) (X.A.deeper (envOfC qg sg s.heap.objs.size g cdg)))
    (hbody : ∀ (A : Around) (outer : List Env) (s : Shared) (H : Hp), Room k (A.deeper (lamEnv X scope s.heap.objs.size f c')) → PE (lamCx X A outer s H E scope f c') body tb)
    (hN : Ng[i]? = some a) (hv : Vis sg a) (he : PE (gotCx X CXg Ng qg sg g cdg s H Eg pn xe) e te) (hd : (a == ("__debug__" : Str)) = false := by decide) (hcd : (a == ("__classdict__" : Str)) = false := by decide)
    (hst : starEach [e] (gotCx X CXg Ng qg sg g cdg s H Eg pn xe).env = (false, eval e (gotCx X CXg Ng qg sg g cdg s H Eg pn xe).env) :: starEach [] (gotCx X CXg Ng qg sg g cdg s H Eg pn xe).env := by rfl)
    (hpl : (backTo p2 (starEach [] (gotCx X CXg Ng qg sg g cdg s H Eg pn xe).env)).any (·.1) = false := by rfl) :
    PE (gotCx X CXg Ng qg sg g cdg s H Eg pn xe) (.Call (.Name a p1) [e] [] p2)
      (fun σZ HZ Q => σZ[i]? = some (some (.ref f)) ∧ tCons te tNil σZ HZ fun vs H1 => ∃ x, vs = [x] ∧ H1 c' = some (CodeO c' (X.env.qual ++ "<lambda>")) ∧ tb (σ.set iq (some x)) H1 Q) := by
  refine ⟨fun pinsZ sZ σZ HZ Q IZ h => ?_⟩
  obtain ⟨hs, h2⟩ := h
  refine wpAny_Call_Name_kw (thn ((pe_var (pos := p1) (i := i) hN hv hd hcd).run pinsZ sZ σZ HZ (fun v H1 => v = .ref f ∧ H1 = HZ) IZ ⟨.ref f, hs, rfl, rfl⟩) fun u s1 ⟨v, H1, I1, r1, q1⟩ => ?_)
  obtain ⟨rfl, rfl⟩ := q1
  obtain rfl : u = Value.ref f := r1
  have at_ : ∀ {s2 : Shared} {H2 : Hp}, Inv (gotCx X CXg Ng qg sg g cdg s H Eg pn xe) pinsZ σZ H2 s2 → s2.heap.get? f = some (lamD X params body scope dV doc pm c' ctv) := fun I2 => I2.base.keep f _ hf hfn hfr (fun z => nomatch (show f ∈ ([] : List Addr) from z))
  refine PySem.W.callWith_F ⟨_, _, _, _, at_ I1⟩ (thn ((pa_cons he pa_nil hst).run p2 pinsZ s1 σZ H1 _ I1 h2) fun us s2 hh => ?_) hst hpl
  obtain ⟨vs, H2, I2, r, x, rfl, hc, ht⟩ := hh
  refine ⟨⟨_, _, _, _, at_ I2⟩, ?_⟩
  cases r with
  | @cons _ ux _ _ rx rn =>
  cases rn
  exact act_end tk hW I2 (lam1_code I L nd hiq rx I2.env0 hr I2.base (at_ I2) hc I2.nolimit (fun M A E Q hq => by show wpAny M A (bindArgs _ ⟨[ux], []⟩) Q E _; rw [show bindArgs (lamDF X params body scope dV doc pm c' ctv) ⟨[ux], []⟩ = pure [(q, ux)] from hbind _ _ _ _ _ _ _]; exact wpAny_pure hq) (fun h4 => hbody _ _ s2 H2 h4) ht)
end
end LamX

set_option maxRecDepth 100000
set_option maxHeartbeats 4000000
/-! A lambda with one constant default, evaluated: its object a new pin, its defaults a known tuple. -/
namespace LamX
open PySem PySem.Spec PyProof.Rows L2
section
variable {X : Cx} {T : List (Addr × Str)} {c P : Addr} {params : Arguments} {body : Expr} {scope : Scope} {pos : Pos}
theorem frs_new {pins : List (Addr × Obj)} {σ : L2.St} {H : Hp} {s : Shared} (I : Inv X pins σ H s) {f : Addr} (hf : s.heap.objs.size ≤ f) : f ∉ frs X.stack := fun z => by
  rcases List.mem_cons.mp (I.stkSub _ z) with e | e
  · exact Nat.lt_irrefl _ (Nat.lt_of_lt_of_le (e ▸ I.lt) hf)
  · exact I.nofs hf e
theorem lam_tail {pins : List (Addr × Obj)} {σ : L2.St} {H : Hp} {s : Shared} {dV : Value} {E : Value → Shared → Prop} {Q : Value → Shared → Prop} (I : Inv X pins σ H s) (TB : TabB X.base X.mg c P) (hcode : X.env.code = .ref c)
    (hm : (P, X.env.qual ++ "<lambda>") ∈ T) (hu : ∀ p ∈ T, p.1 = P → p.2 = X.env.qual ++ "<lambda>") (t : Tabs T H)
    (hfree : ∀ y ∈ scope.names, y.2 = .free → ∃ c, X.env.cells.lookup y.1 = some c)
    (k : ∀ (f c' : Addr) (doc pm ctv : Value) (H1 : Hp) (s' : Shared), Inv X ((f, lamD X params body scope dV doc pm c' ctv) :: pins) σ H1 s' → ExtN H H1 → Tabs T H1 →
      H1 c' = some (CodeO c' (X.env.qual ++ "<lambda>")) → f ∉ frs X.stack → Q (.ref f) s') :
    wpAny (model X.prog X.w) X.A (makeTail "<lambda>" (X.env.qual ++ "<lambda>") params (.expr body) scope X.env dV .none none pos pos.line) Q E s := by
  obtain ⟨ps, hP, ht, ha⟩ := t _ hm
  have atP := I.hok P _ hP
  have bmP := TB.bm.keeps I.bk
  have pin : ∀ {H1 : Hp} {s' : Shared} {f c' : Addr} {doc pm ctv : Value}, Inv X pins σ H1 s' → s'.heap.get? f = some (lamD X params body scope dV doc pm c' ctv) → H1 f = none → f ∉ frs X.stack →
      Inv X ((f, lamD X params body scope dV doc pm c' ctv) :: pins) σ H1 s' := fun J at_ n nf => inv_pin J at_ n nf (not_locals J at_ rfl) (fun _ z => by cases z)
  cases hc : codeAmong pos ps.toList with
  | some cv =>
    obtain ⟨c', rfl, hco⟩ := ha pos cv hc
    refine PySem.W.kdv_makeTailHit (mg := X.mg) (c := c) (P := P) (ps := ps) (closure_ok hfree) I.ok.glob (I.mod.glob.keeps I.bk) hcode (TB.code.keeps I.bk) atP ht hc bmP fun ctv doc h' tk hx hz => ?_
    have J : Inv X pins σ H { s with heap := h'.push (lamD X params body scope dV doc ((X.mg "__name__").getD .none) c' ctv), toks := tk } := I.kept fun b o e => Heap.get?_push_of_some _ (hx b o e)
    exact k _ c' doc _ ctv H _ (pin J (Heap.get?_push_size _ rfl) (I.hok.fresh hz) (frs_new I hz)) (ExtN.refl H) t hco (frs_new I hz)
  | none =>
    refine PySem.W.kdv_makeTail (mg := X.mg) (c := c) (P := P) (ps := ps) (closure_ok hfree) I.ok.glob (I.mod.glob.keeps I.bk) hcode (TB.code.keeps I.bk) atP ht hc TB.gP bmP fun c' ctv doc h' tk hx hge hlt hrec htb => ?_
    obtain ⟨c2, oc, vs, tq, e2, hoc, hdc, hv⟩ := hrec
    cases e2
    have hz : s.heap.objs.size ≤ h'.objs.size := Nat.le_trans hge (Nat.le_of_lt hlt)
    have nC : H c' = none := I.hok.fresh hge
    have J := inv_table (t' := tk) (more := #[rawInt pos.line, rawInt pos.col, .ref c']) (h' := h'.push (lamD X params body scope dV doc ((X.mg "__name__").getD .none) c' ctv)) I hP
      (fun b o hb e => Heap.get?_push_of_some _ (hx b o hb e)) (Heap.get?_push_of_some _ htb) hge ⟨oc, vs, tq, Heap.get?_push_of_some _ hoc, hdc, hv⟩
    have ext : ExtN H (upd (upd H P (.tbl (ps ++ #[rawInt pos.line, rawInt pos.col, .ref c']))) c' (CodeO c' (X.env.qual ++ "<lambda>"))) := fun b o e n => by
      have n1 : b ≠ c' := ne_of_none e nC
      have n2 : b ≠ P := fun z => by subst z; rw [hP] at e; exact n ps (Option.some.inj e).symm
      rw [upd_ne n1, upd_ne n2]
      exact e
    have nf1 : h'.objs.size ≠ c' := Nat.ne_of_gt hlt
    have nf2 : h'.objs.size ≠ P := Nat.ne_of_gt (Nat.lt_of_lt_of_le (Heap.lt_size atP) hz)
    have hfn : (upd (upd H P (.tbl (ps ++ #[rawInt pos.line, rawInt pos.col, .ref c']))) c' (CodeO c' (X.env.qual ++ "<lambda>"))) h'.objs.size = none := by
      rw [upd_ne nf1, upd_ne nf2]
      exact I.hok.fresh hz
    refine k h'.objs.size c' doc _ ctv _ _ (pin J (Heap.get?_push_size _ rfl) hfn (frs_new I hz)) ext (fun p hp => ?_) upd_same (frs_new I hz)
    by_cases hb : p.1 = P
    · rw [hu p hp hb, hb]
      have eL : (ps ++ #[rawInt pos.line, rawInt pos.col, .ref c']).toList = ps.toList ++ [rawInt pos.line, rawInt pos.col, .ref c'] := by simp
      refine ⟨_, (upd_ne (ne_of_none hP nC)).trans upd_same, eL ▸ PySem.TriplesOk_snoc _ _ _ _ ht, fun p' cv z => ?_⟩
      rw [eL] at z
      rcases among_app _ ht z with z | z
      · obtain ⟨c0, z1, z2⟩ := ha p' cv z
        exact ⟨c0, z1, ext _ _ z2 codeO_ne⟩
      · exact ⟨c', z, upd_same⟩
    · obtain ⟨qs, a1, a2, a3⟩ := t p hp
      refine ⟨qs, ?_, a2, fun p' cv z => ?_⟩
      · rw [upd_ne (ne_of_none a1 nC), upd_ne hb]
        exact a1
      · obtain ⟨c0, z1, z2⟩ := a3 p' cv z
        exact ⟨c0, z1, ext _ _ z2 codeO_ne⟩
/-- lambda q=z: body -/
theorem lam_pin1 {pins : List (Addr × Obj)} {σ : L2.St} {H : Hp} {s : Shared} {E : Value → Shared → Prop} {Q : Value → Shared → Prop} {z : Int} {j : Nat} {dp : Pos} (I : Inv X pins σ H s) (TB : TabB X.base X.mg c P) (hcode : X.env.code = .ref c)
    (hm : (P, X.env.qual ++ "<lambda>") ∈ T) (hu : ∀ p ∈ T, p.1 = P → p.2 = X.env.qual ++ "<lambda>") (t : Tabs T H) (hd : params.defaults = [.Constant (.int z) j dp]) (hk : params.kw_defaults = [])
    (hfree : ∀ y ∈ scope.names, y.2 = .free → ∃ c, X.env.cells.lookup y.1 = some c) (hx : X.xe = E)
    (k : ∀ (f c' Td : Addr) (doc pm ctv : Value) (H1 : Hp) (s' : Shared), Inv X ((f, lamD X params body scope (.ref Td) doc pm c' ctv) :: pins) σ H1 s' → ExtN H H1 → Tabs T H1 →
      H1 c' = some (CodeO c' (X.env.qual ++ "<lambda>")) → H1 Td = some (.tup [.int z]) → f ∉ frs X.stack → Q (.ref f) s') :
    wpAny (model X.prog X.w) X.A (eval (.Lambda params body scope pos) X.env) Q E s := by
  subst hx
  refine PySem.W.kdv_lam (by rw [hd]; rfl) hk ?_
  rw [hd]
  refine PySem.W.kdv_all1 (thn ((pe_int (i := z) (j := j) (pos := dp)).run pins s σ H (fun v H1 => v = .int z ∧ H1 = H) I ⟨rfl, rfl⟩) fun u s1 hh => PySem.W.kdv_all0 ?_)
  obtain ⟨v, H1, I1, rv, rfl, rfl⟩ := hh
  rw [makeFunction_eq]
  simp only [List.zip_nil_right, List.filterMap_nil, List.isEmpty_nil, if_true, pure_bind, List.isEmpty_cons, Bool.false_eq_true, if_false]
  refine wpAny_bind (wpAny_newTextTuple ?_)
  have ln : H1 s1.heap.objs.size = none := I1.hok.fresh (Nat.le_refl _)
  have J : Inv X pins σ (upd H1 s1.heap.objs.size (.tup [.int z])) { s1 with heap := s1.heap.push { cls := .type "tuple", data := .seq ([u] : List Value).toArray } } := by
    refine I1.laid (t' := s1.toks) (fun b o e => Heap.get?_push_of_some _ e) (Nat.le_refl _) ⟨(show 1 ≤ sizeLine by decide), [u], .cons rv .nil, _, Heap.get?_push_size _ rfl, rfl, _, rfl⟩
  have ex : ∀ b o, H1 b = some o → (upd H1 s1.heap.objs.size (.tup [.int z])) b = some o := fun b o e => by rw [upd_ne (ne_of_none e ln)]; exact e
  refine lam_tail J TB hcode hm hu (t.ext ex) hfree fun f c' doc pm ctv H2 s' I2 e2 t2 hc nf => ?_
  exact k f c' _ doc pm ctv H2 s' I2 ((ExtN.of ex).trans e2) t2 hc (e2 _ _ upd_same (fun _ w => by cases w)) nf
end
end LamX

set_option maxRecDepth 100000
set_option maxHeartbeats 4000000
/-! A list comprehension whose element is told with what is known of the def around it. -/
namespace LamX
open PySem PySem.Spec PyProof.Rows L2
section
variable {X : Cx}
/-- what a block, begun at s, knows of the def around it -/
structure Home (X : Cx) (pins : List (Addr × Obj)) (σ : L2.St) (H : Hp) (s : Shared) (fp : List Addr) : Prop where
  inv : Inv X pins σ H s
  its : ∀ b ∈ fp, FpOk X pins H b ∧ b < s.heap.objs.size
/-- within the block: the def around it, as it is now -/
theorem Home.now {pins pinsB : List (Addr × Obj)} {σ σB : L2.St} {H HB : Hp} {s sB : Shared} {fp : List Addr} {scope : Scope} {cenv : Env} (h : Home X pins σ H s fp) (I : Inv (X.blk s H scope cenv fp) pinsB σB HB sB) : Inv X pins σ HB sB :=
  h.inv.call' (ch := fp) I.os I.base I.hok I.bare fun b hb =>
    let z := (h.its b hb).1.2
    ⟨z.2.2.1, z.1, z.2.2.2.1, z.2.2.2.2⟩
theorem lc_home {pins : List (Addr × Obj)} {s : Shared} {σ : L2.St} {H : Hp} {Q : VK} {elt tg iter : Expr} {scope : Scope} {own : List (Str × Nat)} {pos pos' : Pos} {wi : TI} {g : TG} {te : L2.St → TE} {use : Option (Value → Sem Unit)} {Qf : Value → Shared → Prop}
    (hc : X.calm = true) (hN : X.N.Nodup) (I : Inv X pins σ H s) (hi : PI X tg iter wi) (ok : BlkOk X.N X.env.scope scope own)
    (hg : ∀ (s : Shared) (H : Hp) (C : Addr) (cl : List (Str × Addr)) (fp : List Addr), PG (X.blk s H scope (compEnvC scope cl C X.env) fp) tg g)
    (he : ∀ (s : Shared) (H : Hp) (C : Addr) (cl : List (Str × Addr)) (fp : List Addr) (pins : List (Addr × Obj)) (σ : L2.St), Home X pins σ H s fp → PE (X.blk s H scope (compEnvC scope cl C X.env) fp) elt (te σ))
    (hs : ∀ x, foldedSetIterable iter X.env x = pure x) (h : tLc wi g tYes (te σ) (own.map (·.2)) σ H Q)
    (out : ∀ D C s' m H', Inv X pins σ H' s' → Q (.ref D) H' → s'.heap.Ns C m → FpOk X pins H' C → compPost (model X.prog X.w) X.A X.xe use Qf (.ref D) C (.ok .next) s') :
    wpAny (model X.prog X.w) X.A (comprehension (.ListComp elt [⟨tg, iter, [], 0⟩] scope pos) scope X.env pos' (newList []) false (eval iter X.env) use) Qf X.xe s := by
  have up : ∀ y ∈ scope.names, y.2 = .free → ∃ c, X.env.cells.lookup y.1 = some c := fun y hy e => (ok.free y hy e).elim (fun z => I.ok.has _ (.inl z)) (fun z => I.ok.has _ (.inr z))
  refine wpAny_comprehension_free (use := use) rfl hs (closure_ok up) ok.kind (fun y hy e => by rw [ok.uniq y hy, e]) (thn (hi.run pins s σ H _ I h) fun xv sa ha => thn ha fun itv sb hb => ?_)
  obtain ⟨it, fp, tn, J, Hb, rfl, Ib, T, stb, fpb, q⟩ := hb
  refine wpAny_newObj_type (newEnv_comp ?_) (Nat.zero_le _)
  have Dn : Hb sb.heap.objs.size = none := Ib.hok.fresh (Nat.le_refl _)
  obtain ⟨W, ⟨m0, w0⟩, turn⟩ := q _ Dn
  generalize eD : sb.heap.objs.size = D at Dn w0 turn ⊢
  generalize eH : upd Hb D (.lst []) = H3 at w0
  generalize es : ({ sb with heap := sb.heap.push { cls := .type "list", data := .seq ([] : List Value).toArray } } : Shared) = s3
  have hp3 : s3.heap = sb.heap.push { cls := .type "list", data := .seq ([] : List Value).toArray } := by rw [← es]
  have keep3 : ∀ b o, sb.heap.get? b = some o → s3.heap.get? b = some o := fun b o e => by rw [hp3]; exact Heap.get?_push_of_some _ e
  have I3 : Inv X pins σ H3 s3 := by
    rw [← es, ← eH]
    refine Ib.laid (t' := sb.toks) (fun b o e => Heap.get?_push_of_some _ e) (Nat.le_of_eq eD) ⟨Nat.zero_le _, [], 0, .nil, ?_⟩
    rw [← eD]
    exact Heap.get?_push_size _ rfl
  have small : ∀ b ∈ fp, b < sb.heap.objs.size := fun b hb => by
    obtain ⟨o, e, _⟩ := T.obj _ _ stb b hb
    exact Heap.lt_size e
  have home : Home X pins σ H3 s3 fp := by
    refine ⟨I3, fun b hb => ⟨⟨?_, (fpb b hb).2⟩, ?_⟩⟩
    · rw [← eH, upd_ne (by rw [← eD]; exact Nat.ne_of_lt (small b hb))]
      exact (fpb b hb).1
    · rw [hp3, Heap.size_push]
      exact Nat.lt_succ_of_lt (small b hb)
  have I4 := block_start I3 ok hN home.its
  generalize ec : compEnvC scope (cellsFrom (s3.heap.objs.size + 1) scope.names (cloFrom X.env.cells scope.names [])) s3.heap.objs.size X.env = ce at I4
  have pg : PG (X.blk s3 H3 scope ce fp) tg g := by rw [← ec]; exact hg ..
  have pe : PE (X.blk s3 H3 scope ce fp) elt (te σ) := by rw [← ec]; exact he _ _ _ _ _ pins σ home
  have cL : ce.locals = s3.heap.objs.size := by rw [← ec]; rfl
  generalize e4 : ({ s3 with heap := pushCells (s3.heap.push { cls := .type "dict", data := .dict #[] }) scope.names } : Shared) = s4 at I4
  have st4 : tn 0 s4.heap := T.keep _ _ _ stb fun b _ o e => by
    rw [← e4]
    exact pushCells_keeps _ _ _ _ (Heap.get?_push_of_some _ (keep3 b o e))
  have nfp : ∀ b ∈ fp, H3 b = none := fun b hb => (home.its b hb).1.1
  have stat : ∀ {σ' : L2.St} {H' : Hp} {s' : Shared}, Inv (X.blk s3 H3 scope ce fp) [] σ' H' s' → (∀ b ∈ fp, H' b = none) → ∀ b ∈ fp, FpOk (X.blk s3 H3 scope ce fp) [] H' b := fun {σ' H' s'} I' hn b hb =>
    ⟨hn b hb, (I'.ok.exf b hb).1, I'.ok.exfs b hb, .inl hb, fun x c e => (I'.ok.exf b hb).2 x c e, fun p hp => absurd (show p ∈ ([] : List (Addr × Obj)) ++ [] from hp) (by simp)⟩
  let R := compPost (model X.prog X.w) X.A X.xe use Qf (.ref D) s3.heap.objs.size
  have loop : codeAny (model X.prog X.w) X.A (.compLoop (.ListComp elt [⟨tg, iter, [], 0⟩] scope pos) 0 (.ref it) (.ref D) ce) R s4 := by
    refine compLoop_any (fun n s' => ∃ i H', Inv (X.blk s3 H3 scope ce fp) [] (wipe σ (own.map (·.2))) H' s' ∧ tn i s'.heap ∧ (∀ b ∈ fp, H' b = none) ∧ W i n H') ?_ m0 ⟨0, H3, I4, st4, nfp, w0⟩
    rintro n s5 ⟨i, H5, I5, st5, n5, w5⟩
    rcases turn i n H5 w5 with ⟨stop, qq⟩ | ⟨go, Nx, nxt, step⟩
    · refine thnF (T.done (X.blk s3 H3 scope ce fp) rfl rfl rfl hc i [] s5 _ H5 (fun _ _ => False) I5 (stat I5 n5) st5 stop) fun r s6 ⟨hr, I6⟩ => ?_
      subst hr
      have I7 := home.now I6
      obtain ⟨m, hn, _⟩ := I6.loc
      have nC : H5 s3.heap.objs.size = none := cL ▸ (show H5 ce.locals = none from I6.free)
      have hn : s6.heap.Ns s3.heap.objs.size m := cL ▸ (show s6.heap.Ns ce.locals m from hn)
      exact out D _ s6 m H5 I7 qq hn (I3.fpOk (Nat.le_refl _) nC)
    · refine thnF (T.item (X.blk s3 H3 scope ce fp) rfl rfl rfl hc i [] s5 _ H5 (fun _ _ => False) I5 (stat I5 n5) st5 go) fun r s6 ⟨u, hr, h6⟩ => ?_
      subst hr
      refine thnF h6 fun _ s7 ⟨x, H7, I7, r7, y7, st7, n7⟩ => ?_
      refine thnF (pg.run _ s7 _ H7 x u _ (I7.pinned (stat I7 n7) (T.obj _ _ st7)) r7 (step x H7 y7)) fun _ s8 ⟨σ8, H8, I8, hw8, q8⟩ => ?_
      refine thnF ((pts_nil (X := X.blk s3 H3 scope ce fp)).run _ s8 σ8 H8 _ I8 q8) fun b s9 ⟨H9, I9, q9⟩ => ?_
      have fin : ∀ {s' : Shared} {H' : Hp}, Inv (X.blk s3 H3 scope ce fp) ([] ++ pinsAt fp s7.heap) σ8 H' s' → Nx H' → ∃ m, m < n ∧ ∃ i H', Inv (X.blk s3 H3 scope ce fp) [] (wipe σ (own.map (·.2))) H' s' ∧ tn i s'.heap ∧ (∀ b ∈ fp, H' b = none) ∧ W i m H' := fun {s' H'} I' nx => by
        obtain ⟨m', hm, w'⟩ := nxt H' nx
        have at7 : ∀ b ∈ fp, ∀ o, s7.heap.get? b = some o → s'.heap.get? b = some o ∧ H' b = none := fun b hb o e =>
          have z := I'.pin (b, o) (List.mem_append_right _ (List.mem_append_right _ (mem_pinsAt hb e)))
          ⟨z.1, z.2.1⟩
        refine ⟨m', hm, i + 1, H', (I'.unpinned (pins := [])).weak (by rw [← hw8, wipe_length]) (fun j v e => ?_), T.keep _ _ _ st7 fun b hb o e => (at7 b hb o e).1, fun b hb => ?_, w'⟩
        · rw [← hw8] at e
          exact (wipe_some e).1
        · obtain ⟨o, e, _⟩ := T.obj _ _ st7 b hb
          exact (at7 b hb o e).2
      cases b with
      | false => exact fin I9 q9
      | true =>
        refine thnF (pe.run _ s9 σ8 H9 _ I9 q9) fun z s10 ⟨yv, H10, I10, r10, acc, hD10, hz10, nx⟩ => ?_
        exact app_ok (X := X.blk s3 H3 scope ce fp) I10 hD10 hz10 r10 fun s11 I11 => fin I11 nx
  have fin := codeAny_compStart_list loop (T.self X.A 0 _ _ _ st4 loop)
  rw [← ec] at fin
  exact fin
/-- as a value -/
theorem pe_lcH {elt tg iter : Expr} {scope : Scope} {own : List (Str × Nat)} {pos : Pos} {wi : TI} {g : TG} {te : L2.St → TE} (hc : X.calm = true) (hN : X.N.Nodup) (hi : PI X tg iter wi) (ok : BlkOk X.N X.env.scope scope own)
    (hg : ∀ (s : Shared) (H : Hp) (C : Addr) (cl : List (Str × Addr)) (fp : List Addr), PG (X.blk s H scope (compEnvC scope cl C X.env) fp) tg g)
    (he : ∀ (s : Shared) (H : Hp) (C : Addr) (cl : List (Str × Addr)) (fp : List Addr) (pins : List (Addr × Obj)) (σ : L2.St), Home X pins σ H s fp → PE (X.blk s H scope (compEnvC scope cl C X.env) fp) elt (te σ))
    (hs : ∀ x, foldedSetIterable iter X.env x = pure x := by intro _; rfl) :
    PE X (.ListComp elt [⟨tg, iter, [], 0⟩] scope pos) (fun σ H Q => tLc wi g tYes (te σ) (own.map (·.2)) σ H Q) := by
  refine ⟨fun pins s σ H Q I h => ?_⟩
  rw [eval_ListComp]
  refine lc_home hc hN I hi ok hg he hs h fun D C s' m H' I' q hn fpC => ⟨m, hn, fun h'' sb => ?_⟩
  obtain ⟨f0, f1, _, f3, f4, f5⟩ := fpC
  exact ⟨.ref D, H', I'.turned (t' := s'.toks) (fun b o hb e => (sb.2 b hb).trans e) f0 f1 f3 f4 f5, rfl, q⟩
/-- y = [..] on one line, y a plain local -/
theorem ps_setLcH {i : Nat} {y : Str} {py : Pos} {elt tg iter : Expr} {scope : Scope} {own : List (Str × Nat)} {pos spos : Pos} {wi : TI} {g : TG} {te : L2.St → TE} (hc : X.calm = true) (hN : X.N.Nodup) (hy : X.N[i]? = some y) (hyl : X.env.scope.names.lookup y = some .local)
    (hsw : swapsWith (.ListComp elt [⟨tg, iter, [], 0⟩] scope pos) (some (.Name y py)) spos.line X.env = pure true) (hi : PI X tg iter wi) (ok : BlkOk X.N X.env.scope scope own)
    (hg : ∀ (s : Shared) (H : Hp) (C : Addr) (cl : List (Str × Addr)) (fp : List Addr), PG (X.blk s H scope (compEnvC scope cl C X.env) fp) tg g)
    (he : ∀ (s : Shared) (H : Hp) (C : Addr) (cl : List (Str × Addr)) (fp : List Addr) (pins : List (Addr × Obj)) (σ : L2.St), Home X pins σ H s fp → PE (X.blk s H scope (compEnvC scope cl C X.env) fp) elt (te σ))
    (hs : ∀ x, foldedSetIterable iter X.env x = pure x := by intro _; rfl) :
    PS X (.Assign [.Name y py] (.ListComp elt [⟨tg, iter, [], 0⟩] scope pos) spos) (tAsg (fun σ H Q => tLc wi g tYes (te σ) (own.map (·.2)) σ H Q) (gName i)) := by
  refine ⟨fun pins s σ H D I h => ?_⟩
  have h2 : tLc wi g tYes (te σ) (own.map (·.2)) σ H (fun x H1 => gName i x σ H1 D.nx) := h
  rw [exec_Assign_Name_used _ _ _ _ hsw]
  refine wpAny_bind (wpAny_standAt (wpAny_bind (wpAny_bind (thn (lc_home (use := some (assign (.Name y py) X.env)) (Qf := fun _ s' => SP X pins D .next s') hc hN I hi ok hg he hs h2 fun L C s' m H' I' q hn fpC => ?_) fun _ s' hq => wpAny_pure (wpAny_pure hq)))))
  obtain ⟨f0, f1, _, f3, f4, f5⟩ := fpC
  refine wpAny_assign_Name (store_ok2 (v := V.ref L) I' hN hy (.inl hyl) rfl (fun s2 I2 hh => ?_) (.inr hyl))
  obtain ⟨a, sb, ha⟩ := hh
  have ne : C ≠ a := ha.elim (fun z => by rw [z]; exact f1) (fun z e => f4 y a z e.symm)
  exact ⟨m, hn.sameBut sb ne, fun h3 sb3 => ⟨_, H', I2.turned (t' := s2.toks) (fun b o hb e => (sb3.2 b hb).trans e) f0 f1 f3 f4 f5, q⟩⟩
end
end LamX

set_option maxRecDepth 100000
set_option maxHeartbeats 4000000
/-! In a comprehension: a def called with one of several lambdas that the def around keeps. -/
namespace LamX
open PySem PySem.Spec PyProof.Rows L2
/-- a lambda's text; with a default: the parameter, its slot, the number -/
structure LamJ where
  params : Arguments
  body : Expr
  scope : Scope
  dflt : Option (Str × Nat × Int)
/-- the slots as the lambda sees them -/
def LamJ.sl (j : LamJ) (σ : L2.St) : L2.St := match j.dflt with
  | none => σ
  | some (_, i, z) => σ.set i (some (.int z))
/-- it is kept at f -/
def LamJ.At (X : Cx) (j : LamJ) (f c' : Addr) (H : Hp) : Prop := f ∉ frs X.stack ∧ H c' = some (CodeO c' (X.env.qual ++ "<lambda>")) ∧ (match j.dflt with
  | none => ∃ pm ctv, (f, lamO X j.params j.body j.scope pm c' ctv) ∈ X.pn
  | some (_, _, z) => ∃ Td doc pm ctv, (f, lamD X j.params j.body j.scope (.ref Td) doc pm c' ctv) ∈ X.pn ∧ H Td = some (.tup [.int z]))
/-- what is asked of its text, and what its body does -/
structure LamJ.Ok (X : Cx) (k : Nat) (j : LamJ) (t : XK → TE) : Prop where
  fit : match j.dflt with
    | none => LamS X.env.scope j.scope ∧ ∀ (q : Str) (cl : List (Str × Addr)) (pm cv ctv : Value), bindArgs (PySem.W.kla_fn "<lambda>" q j.params j.body j.scope cl pm cv ctv) ⟨[], []⟩ = pure []
    | some (q, i, z) => Lam1 q X.env.scope j.scope ∧ X.N[i]? = some q ∧ ∀ (Td : Addr) (n : Str) (cl : List (Str × Addr)) (doc pm cv ctv : Value), ∃ kk : Option (Array Value) → Sem (List (Str × Value)),
        bindArgs (PySem.W.kdv_fn "<lambda>" n j.params (.expr j.body) j.scope cl (.ref Td) doc pm cv ctv) ⟨[], []⟩ = seqItems? (.ref Td) >>= kk ∧ ∀ u, kk (some #[u]) = pure [(q, u)]
  does : ∀ (A : Around) (outer : List Env) (s : Shared) (H : Hp) (E : XK) (f c' : Addr), Room k (A.deeper (lamEnv X j.scope s.heap.objs.size f c')) → PE (lamCx X A outer s H E j.scope f c') j.body (t E)
theorem LamJ.Ok.up {X : Cx} {k : Nat} {j : LamJ} {t : XK → TE} (o : LamJ.Ok X k j t) : ∀ y ∈ j.scope.names, y.2 = .free → X.env.scope.names.lookup y.1 = some .cell ∨ X.env.scope.names.lookup y.1 = some .free := by
  obtain ⟨params, body, scope, dflt⟩ := j
  obtain ⟨fit, _⟩ := o
  match dflt, fit with
  | none, fit => exact fit.1.free
  | some (_, _, _), fit => exact fit.1.up
theorem LamJ.acts {X : Cx} {k : Nat} {j : LamJ} {t : XK → TE} (o : LamJ.Ok X k j t) (nd : X.N.Nodup) {pins : List (Addr × Obj)} {σ : L2.St} {H : Hp} {s : Shared} (I : Inv X pins σ H s) {f c' : Addr} (at_ : j.At X f c' H)
    {Ng : List Str} {x a : Str} {sg : Scope} {g : Addr} {cdg : Value} (hN : Ng[0]? = some a) (hv : Vis sg a) (hd : (a == ("__debug__" : Str)) = false) (hcd : (a == ("__classdict__" : Str)) = false)
    (hr : Room (k + 1) (X.A.deeper (envOfC x sg s.heap.objs.size g cdg))) (W : WX) (pn : List (Addr × Obj)) (xe : Value → Shared → Prop) (E : XK) (p1 p2 : Pos)
    (tk : Takes ((cxOf C8.CX0 X.prog X.w X.K X.mg X.base Ng x sg g cdg X.A X.stack s H C8.E0).tr pn xe) W) (hW : ∀ cls d σ' H', E cls d H' → W cls d σ' H') :
    PE ((cxOf C8.CX0 X.prog X.w X.K X.mg X.base Ng x sg g cdg X.A X.stack s H C8.E0).tr pn xe) (.Call (.Name a p1) [] [] p2)
      (fun σZ HZ Q => σZ[0]? = some (some (.ref f)) ∧ HZ c' = some (CodeO c' (X.env.qual ++ "<lambda>")) ∧ t E (j.sl σ) HZ Q) := by
  obtain ⟨params, body, scope, dflt⟩ := j
  obtain ⟨fit, does⟩ := o
  obtain ⟨nf, hc, at_⟩ := at_
  match dflt, fit, at_ with
  | none, fit, at_ =>
    obtain ⟨pm, ctv, mem⟩ := at_
    obtain ⟨h1, h2, _⟩ := I.pin _ (List.mem_append.mpr (.inl mem))
    exact pe_act (i := 0) I fit.1 h1 h2 nf (fit.2 ..) tk hW hr (fun A outer s H h => does A outer s H E f c' h) hN hv hd hcd
  | some (q, i, z), fit, at_ =>
    obtain ⟨Td, doc, pm, ctv, mem, hT⟩ := at_
    obtain ⟨h1, h2, _⟩ := I.pin _ (List.mem_append.mpr (.inl mem))
    exact pe_act1d (i := 0) I fit.1 nd fit.2.1 h1 h2 nf hT (fit.2.2 Td) tk hW hr (fun A outer s H h => does A outer s H E f c' h) hN hv hd hcd
def tPinH (X : Cx) (l : Nat → LamJ) (n : Nat) (t : Nat → XK → TE) (TT : (XK → Hp → VK → Prop) → Hp → VK → Prop) (te : TE) (σ : L2.St) : TE := fun σB HB Q =>
  te σB HB fun v H1 => ∃ (j : Nat) (f c' : Addr), j < n ∧ v = .ref f ∧ (l j).At X f c' H1 ∧ TT (fun E H' Q' => t j E ((l j).sl σ) H' Q') H1 Q
theorem pe_pinH {X : Cx} {TT : (XK → Hp → VK → Prop) → Hp → VK → Prop} {x a : Str} {g : Addr} {k n : Nat} {pg : Arguments} {bg : List Stmt} {sg : Scope} {dV kV doc pm cdv ct oc : Value}
    {an od : Option Addr} {osl : Array (Option Value)} {Ng : List Str} {l : Nat → LamJ} {t : Nat → XK → TE} {e : Expr} {te : TE} {p pos : Pos}
    {pins : List (Addr × Obj)} {σ : L2.St} {s0 : Shared} {H0 : Hp} {fp : List Addr} {scope : Scope} {cenv : Env} (home : Home X pins σ H0 s0 fp) (nd : X.N.Nodup)
    (hg : Gl (X.blk s0 H0 scope cenv fp) x) (hm : X.mg x = some (.ref g)) (hk : PySem.W.keepIn X.K (.ref g) = true)
    (lk : X.K.lookup g = some ⟨oc, od, .func (PySem.W.fnOf x x pg bg sg dV kV doc pm an cdv ct), osl⟩) (hcg : PySem.W.codeIn X.K cdv x = true)
    (hb : L2.Binds X.K (PySem.W.fnOf x x pg bg sg dV kV doc pm an cdv ct) [a] []) (Sg : FnScope Ng [a] sg) (hNg : Ng[0]? = some a) (hva : Vis sg a)
    (hG : GivesTo X Ng x sg g cdv bg a (X.env.qual ++ "<lambda>") TT) (hr : Room (k + 2) X.A) (he : PE (X.blk s0 H0 scope cenv fp) e te)
    (L : ∀ j < n, LamJ.Ok X k (l j) (t j))
    (hdb : (x == ("__debug__" : Str)) = false := by decide) (hd : (a == ("__debug__" : Str)) = false := by decide) (hcd : (a == ("__classdict__" : Str)) = false := by decide)
    (hst : starEach [e] cenv = (false, eval e cenv) :: starEach [] cenv := by rfl) (hpl : (backTo pos (starEach [] cenv)).any (·.1) = false := by rfl) :
    PE (X.blk s0 H0 scope cenv fp) (.Call (.Name x p) [e] [] pos) (tPinH X l n t TT te σ) := by
  refine ⟨fun pinsB sB σB HB Q I h => ?_⟩
  refine wpAny_Call_Name_kw (ld_glob I hg hm ?_ hdb)
  have h2 : tCons te tNil σB HB (fun vs H1 => match vs with
      | [v] => ∃ (j : Nat) (f c' : Addr), j < n ∧ v = .ref f ∧ (l j).At X f c' H1 ∧ TT (fun E H' Q' => t j E ((l j).sl σ) H' Q') H1 Q
      | _ => False) := h
  refine PySem.W.callWith_K (h₀ := X.base) I.ok.mod.kin hk (thn ((pa_cons he pa_nil hst).run pos pinsB sB σB HB _ I h2) fun us s1 hh => ?_) hst hpl
  obtain ⟨vs, H1, I1, r, q⟩ := hh
  refine ⟨I1.kIn, ?_⟩
  match vs, r, q with
  | [v], r, q =>
    obtain ⟨j, f, c', lt, rfl, at_, tt⟩ := q
    have I2 := home.now I1
    cases r with
    | cons r0 r1 =>
    cases r1
    cases r0
    have rc := run_ofS lk hcg Sg hr I2.env0 (hb s1 [Value.ref f] I1.kIn rfl) (.cons rfl .nil) rfl (CX := C8.CX0) (Q := Q) (E := C8.E0) (vs := [V.ref f]) fun hr' => by
      obtain ⟨t', ht', hq'⟩ := hG f c' s1 H1 Q (fun E H' Q' => t j E ((l j).sl σ) H' Q') (fun W pn xe E p1 p2 tk hW => LamJ.acts (L j lt) nd I2 at_ hNg hva hd hcd hr' W pn xe E p1 p2 tk hW) at_.2.1 tt
      exact ⟨t', PSs.nox ht', hq'⟩
    refine wpAny_call (codeAny_mono rc fun r s2 hq => ?_)
    cases r with
    | error er => exact False.elim hq
    | ok fl =>
      cases fl with
      | ret u => exact I1.after hq
      | next => exact False.elim hq
      | brk => exact False.elim hq
      | cont => exact False.elim hq
end LamX

set_option maxRecDepth 100000
set_option maxHeartbeats 4000000
/-! x = [lambda .., ..] and x.append(lambda ..): the block behind them keeps the lambdas as pins. -/
namespace LamX
open PySem PySem.Spec PyProof.Rows L2
inductive All2 {α β : Type} (R : α → β → Prop) : List α → List β → Prop
  | nil : All2 R [] []
  | cons {a b l m} : R a b → All2 R l m → All2 R (a :: l) (b :: m)
theorem All2.imp {α β : Type} {R S : α → β → Prop} (h : ∀ a b, R a b → S a b) : ∀ {l : List α} {m : List β}, All2 R l m → All2 S l m
  | _, _, .nil => .nil
  | _, _, .cons a b => .cons (h _ _ a) (b.imp h)
theorem All2.len {α β : Type} {R : α → β → Prop} : ∀ {l : List α} {m : List β}, All2 R l m → l.length = m.length
  | _, _, .nil => rfl
  | _, _, .cons _ b => by simp [b.len]
/-- kept at f, among the pins M -/
def LamJ.In (X : Cx) (M : List (Addr × Obj)) (j : LamJ) (f c' : Addr) (H : Hp) : Prop := f ∉ frs X.stack ∧ H c' = some (CodeO c' (X.env.qual ++ "<lambda>")) ∧ (match j.dflt with
  | none => ∃ pm ctv, (f, lamO X j.params j.body j.scope pm c' ctv) ∈ M
  | some (_, _, z) => ∃ Td doc pm ctv, (f, lamD X j.params j.body j.scope (.ref Td) doc pm c' ctv) ∈ M ∧ H Td = some (.tup [.int z]))
theorem LamJ.In.mono {X : Cx} {M M' : List (Addr × Obj)} {j : LamJ} {f c' : Addr} {H H' : Hp} (h : j.In X M f c' H) (m : ∀ q ∈ M, q ∈ M') (e : ExtN H H') : j.In X M' f c' H' := by
  obtain ⟨params, body, scope, dflt⟩ := j
  obtain ⟨h1, h2, h3⟩ := h
  refine ⟨h1, e _ _ h2 codeO_ne, ?_⟩
  match dflt, h3 with
  | none, ⟨pm, ctv, z⟩ => exact ⟨pm, ctv, m _ z⟩
  | some (_, _, z), ⟨Td, doc, pm, ctv, z1, z2⟩ => exact ⟨Td, doc, pm, ctv, m _ z1, e _ _ z2 (fun _ w => by cases w)⟩
/-- the expression is this lambda -/
structure LamE (X : Cx) (e : Expr) (j : LamJ) : Prop where
  text : ∃ pos, e = .Lambda j.params j.body j.scope pos
  dflt : match j.dflt with
    | none => defaultsOf j.params X.env = ([], [])
    | some (_, _, z) => ∃ k p, j.params.defaults = [.Constant (.int z) k p] ∧ j.params.kw_defaults = []
  up : ∀ y ∈ j.scope.names, y.2 = .free → X.env.scope.names.lookup y.1 = some .cell ∨ X.env.scope.names.lookup y.1 = some .free
section
variable {X : Cx} {T : List (Addr × Str)} {c P : Addr}
theorem lam_any {pins : List (Addr × Obj)} {σ : L2.St} {H : Hp} {s : Shared} {e : Expr} {j : LamJ} {Q : Value → Shared → Prop} (L : LamE X e j) (I : Inv X pins σ H s) (TB : TabB X.base X.mg c P) (hcode : X.env.code = .ref c)
    (hm : (P, X.env.qual ++ "<lambda>") ∈ T) (hu : ∀ p ∈ T, p.1 = P → p.2 = X.env.qual ++ "<lambda>") (t : Tabs T H)
    (k : ∀ (f c' : Addr) (o : Obj) (H1 : Hp) (s' : Shared), Inv X ((f, o) :: pins) σ H1 s' → ExtN H H1 → Tabs T H1 → j.In X [(f, o)] f c' H1 → Q (.ref f) s') :
    wpAny (model X.prog X.w) X.A (eval e X.env) Q X.xe s := by
  obtain ⟨params, body, scope, dflt⟩ := j
  obtain ⟨⟨pos, rfl⟩, hd, up⟩ := L
  have up' : ∀ y ∈ scope.names, y.2 = .free → ∃ c, X.env.cells.lookup y.1 = some c := fun y hy e => (up y hy e).elim (fun z => I.ok.has _ (.inl z)) (fun z => I.ok.has _ (.inr z))
  match dflt, hd with
  | none, hd => exact lam_pin I TB hcode hm hu t hd up' fun f c' pm ctv H1 s' I1 ex t1 hc nf => k f c' _ H1 s' I1 ex t1 ⟨nf, hc, pm, ctv, List.mem_singleton.mpr rfl⟩
  | some (q, i, z), ⟨kk, p, hd1, hd2⟩ => exact lam_pin1 I TB hcode hm hu t hd1 hd2 up' rfl fun f c' Td doc pm ctv H1 s' I1 ex t1 hc hT nf => k f c' _ H1 s' I1 ex t1 ⟨nf, hc, Td, doc, pm, ctv, List.mem_singleton.mpr rfl, hT⟩
/-- several, kept one by one -/
def Kept (X : Cx) (M : List (Addr × Obj)) (H : Hp) (fs : List (Addr × Addr)) (js : List LamJ) : Prop := All2 (fun p (j : LamJ) => j.In X M p.1 p.2 H) fs js
theorem Kept.mono {M M' : List (Addr × Obj)} {H H' : Hp} {fs : List (Addr × Addr)} {js : List LamJ} (h : Kept X M H fs js) (m : ∀ q ∈ M, q ∈ M') (e : ExtN H H') : Kept X M' H' fs js := All2.imp (fun _ _ z => z.mono m e) h
theorem lam_list {E : List Expr} {js : List LamJ} (hE : All2 (LamE X) E js) (TB : TabB X.base X.mg c P) (hcode : X.env.code = .ref c) (hm : (P, X.env.qual ++ "<lambda>") ∈ T) (hu : ∀ p ∈ T, p.1 = P → p.2 = X.env.qual ++ "<lambda>") (pos : Pos) :
    ∀ {pins : List (Addr × Obj)} {σ : L2.St} {H : Hp} {s : Shared} {Q : List Value → Shared → Prop}, Inv X pins σ H s → Tabs T H →
    (∀ (fs : List (Addr × Addr)) (M : List (Addr × Obj)) (H1 : Hp) (s' : Shared), Inv X (M ++ pins) σ H1 s' → ExtN H H1 → Tabs T H1 → Kept X M H1 fs js → Q (fs.map fun p => .ref p.1) s') →
    wpAny (model X.prog X.w) X.A (spliced (backTo pos (starEach E X.env))) Q X.xe s := by
  induction hE with
  | nil =>
    intro pins σ H s Q I t k
    exact Calls.spliced_nil (k [] [] H s I (ExtN.refl H) t .nil)
  | @cons e j es js hj hjs ih =>
    intro pins σ H s Q I t k
    have st : starEach (e :: es) X.env = (false, eval e X.env) :: starEach es X.env := by
      obtain ⟨⟨p, rfl⟩, _, _⟩ := hj
      rfl
    rw [st]
    show wpAny _ _ (spliced ((false, eval e X.env) :: backTo pos (starEach es X.env))) _ _ s
    refine Calls.spliced_cons (lam_any hj I TB hcode hm hu t fun f c' o H1 s1 I1 ex t1 h1 => ?_)
    refine ih I1 t1 fun fs M H2 s2 I2 ex2 t2 h2 => ?_
    have eq : M ++ (f, o) :: pins = (M ++ [(f, o)]) ++ pins := by simp
    rw [eq] at I2
    exact k ((f, c') :: fs) (M ++ [(f, o)]) H2 s2 I2 (ex.trans ex2) t2 (.cons (h1.mono (fun q z => List.mem_append_right _ z) ex2) (h2.mono (fun q z => List.mem_append_left _ z) (ExtN.refl _)))
theorem inv_drop {pins more : List (Addr × Obj)} {σ : L2.St} {H : Hp} {s : Shared} (I : Inv X (more ++ pins) σ H s) : Inv X pins σ H s :=
  ⟨I.ok, I.os, I.bare, I.base, I.loc, I.cell, I.free, I.freeC, fun p hp => I.pin p (by
    rcases List.mem_append.mp hp with z | z
    · exact List.mem_append_left _ z
    · exact List.mem_append_right _ (List.mem_append_right _ z)), I.hok, I.len⟩
/-- what a block tells with the pins of before -/
theorem sp_drop {pins more : List (Addr × Obj)} {D : Ends} {xe : Value → Shared → Prop} {pn' : List (Addr × Obj)} {fl : Flow} {s' : Shared} (ok : X.Ok) (h : SP (X.tr (X.pn ++ (more ++ pins)) xe) pn' D fl s') : SP X pins D fl s' := by
  cases fl with
  | next => obtain ⟨σ', H', I, q⟩ := h; exact ⟨σ', H', inv_drop (I.ofTry ok), q⟩
  | brk => obtain ⟨σ', H', I, q⟩ := h; exact ⟨σ', H', inv_drop (I.ofTry ok), q⟩
  | cont => obtain ⟨σ', H', I, q⟩ := h; exact ⟨σ', H', inv_drop (I.ofTry ok), q⟩
  | ret u => obtain ⟨v, σ', H', I, r, q⟩ := h; exact ⟨v, σ', H', inv_drop (I.ofTry ok), r, q⟩
/-- x = [lambda .., ..] and the block behind it -/
def tLams (X : Cx) (T : List (Addr × Str)) (i : Nat) (js : List LamJ) (u : List (Addr × Obj) → TS) : TS := fun D σ H => Tabs T H ∧ ∀ (pn : List (Addr × Obj)) (fs : List (Addr × Addr)) (H1 : Hp), (∀ q ∈ X.pn, q ∈ pn) → ExtN H H1 → Tabs T H1 → Kept X pn H1 fs js →
  ∀ l, H1 l = none → u pn D (σ.set i (some (.ref l))) (upd H1 l (.lst (fs.map fun p => .ref p.1)))
theorem pss_lams {E : List Expr} {js : List LamJ} {i : Nat} {x : Str} {rest : List Stmt} {u : List (Addr × Obj) → TS} {px lp pos : Pos} (hE : All2 (LamE X) E js) (TB : TabB X.base X.mg c P) (hcode : X.env.code = .ref c)
    (hm : (P, X.env.qual ++ "<lambda>") ∈ T) (hu : ∀ p ∈ T, p.1 = P → p.2 = X.env.qual ++ "<lambda>") (nd : X.N.Nodup) (hi : X.N[i]? = some x) (hx : Loc X.env.scope x) (hz : E.length ≤ sizeLine)
    (hr : ∀ pn : List (Addr × Obj), PSs (X.tr pn X.xe) rest (u pn)) (hs : swapsWith (.List E lp) (some (.Name x px)) pos.line X.env = pure false := by rfl)
    (hf : X.fn x = true ∨ X.env.scope.names.lookup x = some .local := by first | exact .inl rfl | exact .inr rfl | assumption) :
    PSs X (.Assign [.Name x px] (.List E lp) pos :: rest) (tLams X T i js u) := by
  refine ⟨fun pins s σ H D I h => ?_⟩
  obtain ⟨t, h⟩ := h
  refine wpAny_execs_cons (wpAny_Assign_Name (wpAny_List_spliced (lam_list hE TB hcode hm hu lp I t fun fs M H1 s1 I1 ex t1 hk => ⟨?_, ?_⟩)) hs)
  · have e1 := All2.len hk
    have e2 := All2.len hE
    rw [List.length_map, e1, ← e2]
    exact hz
  have ln : H1 s1.heap.objs.size = none := I1.hok.fresh (Nat.le_refl _)
  have I2 : Inv X (M ++ pins) σ (upd H1 s1.heap.objs.size (.lst (fs.map fun p => V.ref p.1))) { s1 with heap := s1.heap.push { cls := .type "list", data := .seq (fs.map fun p => Value.ref p.1).toArray } } := by
    refine I1.laid (t' := s1.toks) (fun b v e => Heap.get?_push_of_some _ e) (Nat.le_refl _) ⟨?_, fs.map (fun p => Value.ref p.1), 0, ?_, Heap.get?_push_size _ rfl⟩
    · have e1 := All2.len hk
      have e2 := All2.len hE
      rw [List.length_map, e1, ← e2]
      exact hz
    · clear hk
      induction fs with
      | nil => exact .nil
      | cons p fs ih => exact .cons rfl ih
  refine store_ok (v := V.ref s1.heap.objs.size) I2 nd hi hx rfl (fun s2 I3 => ?_) hf
  have I4 := I3.toTry X.xe
  have run := (hr (X.pn ++ (M ++ pins))).run [] s2 _ _ D I4 (h _ fs H1 (fun q z => List.mem_append_left _ z) ex t1 (hk.mono (fun q z => List.mem_append_right _ (List.mem_append_left _ z)) (ExtN.refl _)) _ ln)
  exact wpAny_mono run (fun fl s3 z => sp_drop I.ok z) fun e s3 z => z
/-- x.append(lambda ..) and the block behind it -/
def tLamApp (X : Cx) (T : List (Addr × Str)) (i : Nat) (j : LamJ) (u : List (Addr × Obj) → TS) : TS := fun D σ H => ∃ l xs, σ[i]? = some (some (.ref l)) ∧ H l = some (.lst xs) ∧ xs.length < sizeLine ∧ Tabs T H ∧ ∀ (pn : List (Addr × Obj)) (f c' : Addr) (H1 : Hp), (∀ q ∈ X.pn, q ∈ pn) → ExtN H H1 → Tabs T H1 → j.In X pn f c' H1 →
  u pn D σ (upd H1 l (.lst (xs ++ [.ref f])))
theorem pss_lamApp {e : Expr} {j : LamJ} {i : Nat} {x : Str} {rest : List Stmt} {u : List (Addr × Obj) → TS} {px apos cpos epos : Pos} (hj : LamE X e j) (TB : TabB X.base X.mg c P) (hcode : X.env.code = .ref c)
    (hm : (P, X.env.qual ++ "<lambda>") ∈ T) (hu : ∀ p ∈ T, p.1 = P → p.2 = X.env.qual ++ "<lambda>") (hi : X.N[i]? = some x) (hv : Vis X.env.scope x)
    (hr : ∀ pn : List (Addr × Obj), PSs (X.tr pn X.xe) rest (u pn))
    (hst : starEach [e] X.env = (false, eval e X.env) :: starEach [] X.env := by rfl) (hd : (x == ("__debug__" : Str)) = false := by decide) (hcd : (x == ("__classdict__" : Str)) = false := by decide)
    (hbase : attributeBase (.Name x px) "append" X.env (eval (.Name x px) X.env) = eval (.Name x px) X.env := by rfl)
    (hfew : ((backTo cpos (starEach [e] X.env)).all (fun x => !x.1) && (backToKw cpos (keywordEach [] X.env)).all (fun x => x.1.isSome)
      && decide (([e] : List Expr).length + ([] : List Keyword).length + (if ([] : List Keyword).isEmpty then 0 else 1) < 30)) = true := by rfl)
    (hline : (apos.endLine == cpos.line) = true := by rfl) (hplain : (backTo cpos (starEach [] X.env)).any (·.1) = false := by rfl)
    (hsw : swapsWith (.Call (.Attribute (.Name x px) "append" apos) [e] [] cpos) none epos.line X.env = pure false := by rfl) :
    PSs X (.Expr (.Call (.Attribute (.Name x px) "append" apos) [e] [] cpos) epos :: rest) (tLamApp X T i j u) := by
  refine ⟨fun pins s σ H D I h => ?_⟩
  obtain ⟨l, xs, hs, hl, hz, t, h⟩ := h
  refine wpAny_execs_cons (wpAny_Expr_any (wpAny_Call_method_late hbase hfew hline rfl (thn ((pe_var (pos := px) (i := i) hi hv hd hcd).run pins s σ H (fun v H1 => v = .ref l ∧ H1 = H) I ⟨.ref l, hs, rfl, rfl⟩) fun v s1 hh => ?_)) I.quiet hsw)
  obtain ⟨x1, H1, I1, r1, rfl, rfl⟩ := hh
  obtain ⟨h1, h2⟩ := tyV_is (T := "list") I1 r1 (.inl ⟨rfl, xs, SqL.of hl⟩)
  refine ⟨"list", "list.append", PySem.F.plainAttrs_list, PySem.F.slot_list_append, PySem.F.type_list_append, h1, h2, ?_⟩
  rw [hst]
  refine Calls.callWith_builtin (by show (false || (backTo cpos (starEach [] X.env)).any (·.1)) = false; rw [hplain]; rfl) (Calls.evalArgs_plain ?_)
  refine Calls.spliced_cons (lam_any hj I1 TB hcode hm hu t fun f c' o H2 s2 I2 ex t2 h2' => ?_)
  refine Calls.spliced_nil ?_
  have hl2 : H2 l = some (.lst xs) := ex _ _ hl (fun _ z => by cases z)
  refine thn ((mt_append (X := X)) ((f, o) :: pins) s2 σ H2 (.ref l) [.ref f] v [.ref f] (fun _ H' => H' = upd H2 l (.lst (xs ++ [.ref f]))) I2 r1 (.cons rfl .nil) ⟨l, xs, .ref f, rfl, rfl, hl2, hz, rfl⟩) fun w s3 hw => ?_
  obtain ⟨x3, H3, I3, r3, rfl⟩ := hw
  have I4 := I3.toTry X.xe
  have mem : (f, o) ∈ X.pn ++ (f, o) :: pins := List.mem_append_right _ (List.mem_cons_self ..)
  have run := (hr (X.pn ++ ((f, o) :: pins))).run [] s3 _ _ D I4 (h _ f c' H2 (fun q z => List.mem_append_left _ z) ex t2 (h2'.mono (fun q z => by rw [List.mem_singleton.mp z]; exact mem) (ExtN.refl _)))
  exact wpAny_mono run (fun fl s4 z => sp_drop (more := [(f, o)]) I.ok z) fun e s4 z => z
end
end LamX

set_option maxRecDepth 100000
set_option maxHeartbeats 4000000
/-! [said(ask) for ask in asks], asks a list of kept lambdas, each told as a new tuple. -/
namespace LamX
open PySem PySem.Spec PyProof.Rows L2
theorem LamJ.At.same {X : Cx} {j : LamJ} {p c' : Addr} {G G' : Hp} (h : j.At X p c' G) (e : ∀ b o, G b = some o → (∀ ps, o ≠ .tbl ps) → (∀ xs, o ≠ .lst xs) → G' b = some o) : j.At X p c' G' := by
  obtain ⟨params, body, scope, dflt⟩ := j
  obtain ⟨h1, h2, h3⟩ := h
  refine ⟨h1, e _ _ h2 codeO_ne (fun xs z => ?_), ?_⟩
  · unfold CodeO at z
    cases z
  match dflt, h3 with
  | none, h3 => exact h3
  | some (_, _, z), ⟨Td, doc, pm, ctv, z1, z2⟩ => exact ⟨Td, doc, pm, ctv, z1, e _ _ z2 (fun _ w => by cases w) (fun _ w => by cases w)⟩
theorem asks {K : PySem.W.Frag} {X : Cx} {jX : Nat → LamJ} {tX : Nat → XK → TE} {TT : (XK → Hp → VK → Prop) → Hp → VK → Prop} {te0 : TE} {iv n : Nat} {σ : L2.St} {G : Hp} {l : Addr} {qs : List (Addr × Addr)} {W : Nat → List V} {Q : VK}
    (h0 : ∀ R : VK, R (.ref l) G → te0 σ G R) (hl : G l = some (.lst (qs.map fun q => V.ref q.1))) (hn : qs.length = n) (n1 : n < 1000) (at_ : ∀ j q, qs[j]? = some q → (jX j).At X q.1 q.2 G)
    (hw : ∀ x : V, wipe ((wipe σ [iv]).set iv (some x)) [iv] = wipe σ [iv]) (hv : ∀ x : V, ((wipe σ [iv]).set iv (some x))[iv]? = some (some x))
    (turn : ∀ j < n, ∀ (G' : Hp) (Q' : VK), Same G G' → (∀ (H' : Hp) (t : Addr), Same G' H' → H' t = some (.tup (W j)) → Q' (.ref t) H') → TT (fun E' H' Q' => tX j E' ((jX j).sl σ) H' Q') G' Q')
    (k : ∀ (D : Addr) (ts : List Addr) (G' : Hp), Same G G' → G' D = some (.lst (ts.map V.ref)) → ts.length = n → (∀ (j : Nat) (t : Addr), ts[j]? = some t → G' t = some (.tup (W j))) → Q (.ref D) G') :
    tLc (iList K te0) (gName iv) tYes (tPinH X jX n tX TT (tVar iv) σ) [iv] σ G Q := by
  have big : 1000 < sizeLine := by decide
  refine h0 _ ⟨l, rfl, ⟨_, SqL.of hl⟩, fun D nD => ?_⟩
  refine lc_list (K := K) (xs := qs.map fun q => V.ref q.1) (fun i G2 => Same G G2 ∧ ∃ ts : List Addr, G2 D = some (.lst (ts.map V.ref)) ∧ ts.length = i ∧ ∀ (j : Nat) (t : Addr), ts[j]? = some t → G2 t = some (.tup (W j)))
    ⟨Same.new nD, [], upd_same, rfl, fun j t h => by simp at h⟩ (fun i G2 _ g => SqL.of (g.1 _ _ hl)) (fun i x G2 hx g => ?_) (fun G2 g => ?_)
  · obtain ⟨sG, ts, hD, lt, ht⟩ := g
    rw [List.getElem?_map] at hx
    obtain ⟨q, hq, rfl⟩ := Option.map_eq_some_iff.mp hx
    have li := (List.getElem?_eq_some_iff.mp hq).1
    refine ⟨hw _, ?_⟩
    refine ⟨_, hv _, i, q.1, q.2, by omega, rfl, (at_ i q hq).same (fun b o e _ _ => sG _ _ e), turn i (by omega) G2 _ sG fun G1 r S e => ?_⟩
    have hD1 := S _ _ hD
    refine ⟨_, hD1, by rw [List.length_map]; omega, ?_, ts ++ [r], ?_, by rw [List.length_append, lt]; rfl, fun j t hj => ?_⟩
    · exact fun b o e => by
        rw [upd_ne (ne_of_none e nD)]
        exact (sG.trans S) b o e
    · rw [upd_same, List.map_append]
      rfl
    · have off : ∀ {t u}, G1 t = some (.tup u) → upd G1 D (.lst (ts.map V.ref ++ [.ref r])) t = some (.tup u) := fun h => (upd_ne (fun z => by rw [z, hD1] at h; cases h)).trans h
      by_cases lj : j < ts.length
      · rw [List.getElem?_append_left lj] at hj
        exact off (S _ _ (ht j t hj))
      · have ej : j = ts.length := by
          have := (List.getElem?_eq_some_iff.mp hj).1
          rw [List.length_append, List.length_singleton] at this
          omega
        rw [ej, List.getElem?_append_right (Nat.le_refl _), Nat.sub_self] at hj
        cases hj
        rw [ej, lt]
        exact off e
  · obtain ⟨sG, ts, hD, lt, ht⟩ := g
    rw [List.length_map] at lt
    exact k D ts G2 sG hD (by omega) ht
end LamX

set_option maxRecDepth 100000
set_option maxHeartbeats 4000000
/-! [said(ask) for ask in asks], asks a list of kept lambdas, of each answer something told. -/
namespace LamX
open PySem PySem.Spec PyProof.Rows L2
/-- all but tables and lists -/
def Fx (H H' : Hp) : Prop := ∀ b o, H b = some o → (∀ ps, o ≠ .tbl ps) → (∀ xs, o ≠ .lst xs) → H' b = some o
theorem Fx.of {H H' : Hp} (s : Same H H') : Fx H H' := fun b o e _ _ => s b o e
theorem Fx.ext {H H' : Hp} (s : ExtN H H') : Fx H H' := fun b o e t _ => s b o e t
theorem Fx.trans {H H1 H2 : Hp} (a : Fx H H1) (b : Fx H1 H2) : Fx H H2 := fun c o e t l => b c o (a c o e t l) t l
theorem asksP {K : PySem.W.Frag} {X : Cx} {jX : Nat → LamJ} {tX : Nat → XK → TE} {TT : (XK → Hp → VK → Prop) → Hp → VK → Prop} {te0 : TE} {iv n : Nat} {σ : L2.St} {G : Hp} {l : Addr} {qs : List (Addr × Addr)} {PP : Nat → V → Hp → Prop} {Q : VK}
    (st : ∀ (j : Nat) (x : V) (G G' : Hp), Fx G G' → PP j x G → PP j x G')
    (h0 : ∀ R : VK, R (.ref l) G → te0 σ G R) (hl : G l = some (.lst (qs.map fun q => V.ref q.1))) (hn : qs.length = n) (n1 : n < 1000) (at_ : ∀ j q, qs[j]? = some q → (jX j).At X q.1 q.2 G)
    (hw : ∀ x : V, wipe ((wipe σ [iv]).set iv (some x)) [iv] = wipe σ [iv]) (hv : ∀ x : V, ((wipe σ [iv]).set iv (some x))[iv]? = some (some x))
    (turn : ∀ j < n, ∀ (G' : Hp) (Q' : VK), Same G G' → (∀ (H' : Hp) (x : V), Same G' H' → PP j x H' → Q' x H') → TT (fun E' H' Q' => tX j E' ((jX j).sl σ) H' Q') G' Q')
    (k : ∀ (D : Addr) (xs : List V) (G' : Hp), Same G G' → G' D = some (.lst xs) → xs.length = n → (∀ (j : Nat) (x : V), xs[j]? = some x → PP j x G') → Q (.ref D) G') :
    tLc (iList K te0) (gName iv) tYes (tPinH X jX n tX TT (tVar iv) σ) [iv] σ G Q := by
  have big : 1000 < sizeLine := by decide
  refine h0 _ ⟨l, rfl, ⟨_, SqL.of hl⟩, fun D nD => ?_⟩
  refine lc_list (K := K) (xs := qs.map fun q => V.ref q.1) (fun i G2 => Same G G2 ∧ ∃ xs : List V, G2 D = some (.lst xs) ∧ xs.length = i ∧ ∀ (j : Nat) (x : V), xs[j]? = some x → PP j x G2)
    ⟨Same.new nD, [], upd_same, rfl, fun j t h => by simp at h⟩ (fun i G2 _ g => SqL.of (g.1 _ _ hl)) (fun i x G2 hx g => ?_) (fun G2 g => ?_)
  · obtain ⟨sG, xs, hD, lt, ht⟩ := g
    rw [List.getElem?_map] at hx
    obtain ⟨q, hq, rfl⟩ := Option.map_eq_some_iff.mp hx
    have li := (List.getElem?_eq_some_iff.mp hq).1
    refine ⟨hw _, ?_⟩
    refine ⟨_, hv _, i, q.1, q.2, by omega, rfl, (at_ i q hq).same (fun b o e _ _ => sG _ _ e), turn i (by omega) G2 _ sG fun G1 r S e => ?_⟩
    have hD1 := S _ _ hD
    have fx : Fx G1 (upd G1 D (.lst (xs ++ [r]))) := fun b o e _ n => (upd_ne (fun z => by rw [z, hD1] at e; exact n _ (Option.some.inj e).symm)).trans e
    refine ⟨_, hD1, by omega, ?_, xs ++ [r], upd_same, by rw [List.length_append, lt]; rfl, fun j t hj => ?_⟩
    · exact fun b o e => by
        rw [upd_ne (ne_of_none e nD)]
        exact (sG.trans S) b o e
    · by_cases lj : j < xs.length
      · rw [List.getElem?_append_left lj] at hj
        exact st _ _ _ _ ((Fx.of S).trans fx) (ht j t hj)
      · have ej : j = xs.length := by
          have := (List.getElem?_eq_some_iff.mp hj).1
          rw [List.length_append, List.length_singleton] at this
          omega
        rw [ej, List.getElem?_append_right (Nat.le_refl _), Nat.sub_self] at hj
        cases hj
        rw [ej, lt]
        exact st _ _ _ _ fx e
  · obtain ⟨sG, xs, hD, lt, ht⟩ := g
    rw [List.length_map] at lt
    exact k D xs G2 sG hD (by omega) ht
end LamX

set_option maxRecDepth 100000
set_option maxHeartbeats 4000000
namespace K55
open PySem PySem.Spec PyProof.Rows L2 He VH RZ
open LamX (Fx)
/-! what stands, and odd things -/
theorem sqT_fx {K : PySem.W.Frag} {H H' : Hp} {a : Addr} {xs : List V} (h : SqT K H a xs) (e : Fx H H') : SqT K H' a xs := by
  rcases h with (h | ⟨o, h⟩) | h
  · exact .inl (.inl (e _ _ h (fun _ z => by cases z) (fun _ z => by cases z)))
  · exact .inl (.inr ⟨o, e _ _ h (fun _ z => by cases z) (fun _ z => by cases z)⟩)
  · exact .inr h
theorem fx_tup {H H' : Hp} {a : Addr} {xs : List V} (e : Fx H H') (h : H a = some (.tup xs)) : H' a = some (.tup xs) := e _ _ h (fun _ z => by cases z) (fun _ z => by cases z)
theorem fx_ins {H H' : Hp} {a C dx : Addr} {fs : List (Str × V)} (e : Fx H H') (h : H a = some (.ins C dx fs)) : H' a = some (.ins C dx fs) := e _ _ h (fun _ z => by cases z) (fun _ z => by cases z)
theorem RoAt.fx {K : PySem.W.Frag} {H H' : Hp} {a fa : Addr} {ws ps bs : List V} {d : Ro} (h : RoAt K H a ws ps bs fa d) (e : Fx H H') : RoAt K H' a ws ps bs fa d := by
  obtain ⟨dx, t1, t2, t3, c1, c2, h, a1, a2, a3⟩ := h
  exact ⟨dx, t1, t2, t3, c1, c2, fx_ins e h, sqT_fx a1 e, sqT_fx a2 e, sqT_fx a3 e⟩
theorem FlK.fx {K : PySem.W.Frag} {H H' : Hp} {a : Addr} (h : FlK K H a) (e : Fx H H') : FlK K H' a := by
  obtain ⟨p, d, ⟨dx, h⟩, xs, hp, pl⟩ := h
  exact ⟨p, d, ⟨dx, fx_ins e h⟩, xs, fx_tup e hp, pl⟩
theorem WyAt.fx {K : PySem.W.Frag} {H H' : Hp} {x : V} {r : Int × Int} (h : WyAt K H x r) (e : Fx H H') : WyAt K H' x r := by
  obtain ⟨p, ex, h⟩ := h
  exact ⟨p, ex, sqT_fx h e⟩
theorem Parts.fx {K : PySem.W.Frag} {H H' : Hp} {ws ps bs : List V} {fa : Addr} {d : Ro} (h : Parts K H ws ps bs fa d) (e : Fx H H') : Parts K H' ws ps bs fa d where
  w := ⟨h.w.1, fun i x q => by
    obtain ⟨r, er, p⟩ := h.w.2 i x q
    obtain ⟨z, rfl⟩ := mem_some er
    obtain ⟨c, xs, b, rfl, dx, t, h1, h2⟩ := p
    exact ⟨_, er, c, xs, b, rfl, dx, t, fx_ins e h1, fx_tup e h2⟩⟩
  f := h.f.fx e
  p := ⟨h.p.1, fun i x q => by
    obtain ⟨r, er, p⟩ := h.p.2 i x q
    obtain ⟨z, rfl⟩ := mem_some er
    obtain ⟨⟨c, rfl, dx, t1, t2, t3, h1, a1, a2, a3⟩, l⟩ := p
    exact ⟨_, er, ⟨c, rfl, dx, t1, t2, t3, fx_ins e h1, sqT_fx a1 e, sqT_fx a2 e, sqT_fx a3 e⟩, l⟩⟩
  b := h.b.same fun _ _ h => h.fx e
theorem Roll.fx {K : PySem.W.Frag} {H H' : Hp} {a : Addr} {ws ps bs : List V} {fa : Addr} {d : Ro} (h : Roll K H a ws ps bs fa d) (e : Fx H H') : Roll K H' a ws ps bs fa d := ⟨h.r.fx e, h.p.fx e, h.ok⟩
theorem _root_.L2.Well.ext {a : Addr} {H H' : Hp} (w : Well H a) (s : LamX.ExtN H H') : Well H' a := by
  obtain ⟨c, b, n, w⟩ := w
  exact ⟨c, b, n, s _ _ w (fun _ z => by cases z)⟩
/-- nothing of a well and of tables -/
def Bx (a : Addr) (H H' : Hp) : Prop := ∀ b o, b ≠ a → H b = some o → (∀ ps, o ≠ .tbl ps) → H' b = some o
theorem Bx.but {a : Addr} {H H' : Hp} (h : But a H H') : Bx a H H' := fun b o n e _ => h b o n e
theorem Bx.same {a : Addr} {H H' : Hp} (h : Same H H') : Bx a H H' := fun b o _ e _ => h b o e
theorem Bx.ext {a : Addr} {H H' : Hp} (h : LamX.ExtN H H') : Bx a H H' := fun b o _ e t => h b o e t
theorem Bx.fx {a : Addr} {H H' : Hp} (w : Well H a) (h : Bx a H H') : Fx H H' := fun b o e t l => h b o (fun z => by
  obtain ⟨x, y, v, w⟩ := w
  rw [z, w] at e
  exact l _ (Option.some.inj e).symm) e t
theorem tabs_but {Tt : List (Addr × Str)} {H H' : Hp} {l : Addr} (t : LamX.Tabs Tt H) (w : Well H l) (b : But l H H') : LamX.Tabs Tt H' := fun q hp => by
  obtain ⟨x, y, v, hl⟩ := w
  obtain ⟨ps, h1, h2, h3⟩ := t q hp
  have n1 : q.1 ≠ l := fun z => by rw [z, hl] at h1; cases h1
  refine ⟨ps, b _ _ n1 h1, h2, fun pos cv hc => ?_⟩
  obtain ⟨c, e1, e2⟩ := h3 pos cv hc
  refine ⟨c, e1, b _ _ (fun z => ?_) e2⟩
  rw [z, hl] at e2
  unfold LamX.CodeO at e2
  cases e2
theorem sql_bx {K : PySem.W.Frag} {sc p : Addr} {H H' : Hp} {xs : List V} (h : SqL K H sc xs) (d : sc ≠ p ∨ ∀ G, SqL K G sc xs) (b : Bx p H H') : SqL K H' sc xs := by
  rcases d with d | d
  · rcases h with (h | ⟨o, h⟩) | h
    · exact .inl (.inl (b _ _ d h (fun _ z => by cases z)))
    · exact .inl (.inr ⟨o, b _ _ d h (fun _ z => by cases z)⟩)
    · exact .inr h
  · exact d _

/-- odd things: scalars, a Fill, lists, tuples, an empty dict -/
inductive Od (K : PySem.W.Frag) (fl : Bool) (p fa : Addr) (H : Hp) : V → Prop
  | int {i : Int} : Od K fl p fa H (.int i)
  | non : Od K fl p fa H .non
  | bl {b : Bool} : Od K fl p fa H (.bl b)
  | str {z : Str} : Od K fl p fa H (.str z)
  | fil (e : fl = true) (h : FlK K H fa) : Od K fl p fa H (.ref fa)
  | lst {q : Addr} {ys : List V} (nq : q ≠ p) (h : H q = some (.lst ys)) : Od K fl p fa H (.ref q)
  | tup {q : Addr} {ys : List V} (h : H q = some (.tup ys)) : Od K fl p fa H (.ref q)
  | dct {q : Addr} (h : H q = some (.dK [])) : Od K fl p fa H (.ref q)
theorem Od.bx {K : PySem.W.Frag} {fl : Bool} {p fa : Addr} {H H' : Hp} {x : V} (h : Od K fl p fa H x) (w : Well H p) (b : Bx p H H') : Od K fl p fa H' x := by
  have fx := b.fx w
  cases h with
  | int => exact .int
  | non => exact .non
  | bl => exact .bl
  | str => exact .str
  | fil e h => exact .fil e (h.fx fx)
  | lst nq h => exact .lst nq (b _ _ nq h (fun _ z => by cases z))
  | tup h => exact .tup (fx_tup fx h)
  | dct h => exact .dct (fx _ _ h (fun _ z => by cases z) (fun _ z => by cases z))
theorem FlK.ty {K : PySem.W.Frag} {mg : Str → Option Value} {w : World} (T : Txt K mg w) {H : Hp} {a : Addr} (h : FlK K H a) : TyX K H (.ref a) (.ref (ga K "Fill")) := by
  obtain ⟨p, e, ⟨dx, h⟩, _⟩ := h
  exact .base (.ins h T.c_Fill T.o_Fill.cls T.dc1 T.dc2 T.o_Fill.mro)
def intQ : V → Option Int
  | .int i => some i
  | _ => none
section
variable {K : PySem.W.Frag} {mg : Str → Option Value} {w : World} {fl : Bool} {p fa : Addr} {H : Hp} {x : V}
theorem Od.noRo (T : Txt K mg w) (h : Od K fl p fa H x) : NoRo K H x := by
  cases h with
  | non => exact ⟨_, .base .non, (T.o_Rollout.kt "NoneType" (by simp)).1⟩
  | int => exact ⟨_, .base (.int _), (T.o_Rollout.kt "int" (by simp)).1⟩
  | str => exact ⟨_, .base (.str _), (T.o_Rollout.kt "str" (by simp)).1⟩
  | bl => exact ⟨_, .base (.bl _), (T.o_Rollout.kt "bool" (by simp)).1⟩
  | fil _ h => exact ⟨_, h.ty T, T.kn "Fill" (by simp) "Rollout" (by simp)⟩
  | lst _ h => exact ⟨_, .base (.lst h), (T.o_Rollout.kt "list" (by simp)).1⟩
  | tup h => exact ⟨_, .base (.tup h), (T.o_Rollout.kt "tuple" (by simp)).1⟩
  | dct h => exact ⟨_, .base (.dK h), (T.o_Rollout.kt "dict" (by simp)).1⟩
theorem Od.isI (h : Od K false p fa H x) : isI K H x (intQ x) := by
  cases h with
  | int => exact .inl ⟨_, rfl, rfl⟩
  | non => exact .inr ⟨.non, rfl⟩
  | bl => exact .inr ⟨.bl, rfl⟩
  | str => exact .inr ⟨.str, rfl⟩
  | fil e h => cases e
  | lst _ h => exact .inr ⟨.lst h, rfl⟩
  | tup h => exact .inr ⟨.tup h, rfl⟩
  | dct h => exact .inr ⟨.dct h, rfl⟩
theorem Od.noW (h : Od K false p fa H x) (hs : ∀ u, x = .str u → lkW.contains u = false) : NoW K H x := by
  have k : ∀ {a : String}, kitB a "str" = some false → PySem.W.kitOne K (.type a) (.type "str") = some false := fun h => kit_ty h
  cases h with
  | int => exact .inr fun H' _ => ⟨_, .base (.int _), k (by decide +kernel)⟩
  | non => exact .inr fun H' _ => ⟨_, .base .non, k (by decide +kernel)⟩
  | bl => exact .inr fun H' _ => ⟨_, .base (.bl _), k (by decide +kernel)⟩
  | str => exact .inl ⟨_, rfl, hs _ rfl⟩
  | fil e h => cases e
  | lst _ h => exact .inr fun H' s => ⟨_, .base (.lst (s _ _ h)), k (by decide +kernel)⟩
  | tup h => exact .inr fun H' s => ⟨_, .base (.tup (s _ _ h)), k (by decide +kernel)⟩
  | dct h => exact .inr fun H' s => ⟨_, .base (.dK (s _ _ h)), k (by decide +kernel)⟩
end
theorem Od.self (K : PySem.W.Frag) {fl : Bool} {p fa : Addr} {H : Hp} {x : V} (h : Od K fl p fa H x) (H' : Hp) : DS x x H' := by
  cases h with
  | int => exact .inl ⟨rfl, rfl, by show (_ == _) = true; simp⟩
  | non => exact .inl ⟨rfl, rfl, rfl⟩
  | bl => exact .inl ⟨rfl, rfl, by show (_ == _) = true; simp⟩
  | str => exact .inl ⟨rfl, rfl, by show (_ == _) = true; simp⟩
  | fil e h => exact .inr ⟨_, rfl, rfl⟩
  | lst _ h => exact .inr ⟨_, rfl, rfl⟩
  | tup h => exact .inr ⟨_, rfl, rfl⟩
  | dct h => exact .inr ⟨_, rfl, rfl⟩
theorem ds_str {u : Str} {H : Hp} : DS (.str u) (.str u) H := .inl ⟨rfl, rfl, by show (u == u) = true; simp⟩
theorem ds_int {u : Int} {H : Hp} : DS (.int u) (.int u) H := .inl ⟨rfl, rfl, by show (u == u) = true; simp⟩
/-- what is due -/
def dueL (j : Nat) (x : V) : List V := match j with
  | 0 => [.str "rollout", .int (-1)]
  | 1 => [.str "number", .str "phase"]
  | 2 => [.str "word", x]
  | _ => [.str "number", .str "most"]
theorem due_eq {K : PySem.W.Frag} {p fa b t : Addr} {H : Hp} {x : V} (j : Nat) (od : Od K false p fa H x) (h1 : H b = some (.tup (dueL j x))) (h2 : H t = some (.tup (dueL j x))) : DTup K DS (.ref b) (.ref t) H := by
  refine ⟨b, t, _, _, rfl, rfl, SqT.of h1, SqT.of h2, ?_⟩
  match j with
  | 0 => exact .cons ds_str (.cons ds_int .nil)
  | 1 => exact .cons ds_str (.cons ds_str .nil)
  | 2 => exact .cons ds_str (.cons (od.self K H) .nil)
  | j + 3 => exact .cons ds_str (.cons ds_str .nil)
theorem run_if {c : TT} {ta tb : TE} {σ : L2.St} {H : Hp} {Q : VK} (b : Bool) (x y : V) (hc : ∀ R : Bool → Hp → Prop, R b H → c σ H R) (ha : ∀ R : VK, R x H → ta σ H R) (hb : ∀ R : VK, R y H → tb σ H R) (k : Q (if b = true then x else y) H) : tIf c ta tb σ H Q := by
  refine hc _ ?_
  cases b
  · exact hb _ k
  · exact ha _ k
/-- the first of four truths -/
theorem first_true (b0 b1 b2 b3 : Bool) : inV (.bl true) [.bl b0, .bl b1, .bl b2, .bl b3] = false ∨ (inV (.bl true) [.bl b0, .bl b1, .bl b2, .bl b3] = true ∧ ∃ j, j < 4 ∧ [b0, b1, b2, b3][j]? = some true ∧ ∀ m, m < j → [b0, b1, b2, b3][m]? = some false) := by
  have z : ∀ m, ¬ m < 0 := fun m h => by omega
  have l1 : ∀ {P : Nat → Prop}, P 0 → ∀ m, m < 1 → P m := fun h m hm => by
    have e : m = 0 := by omega
    rw [e]
    exact h
  have l2 : ∀ {P : Nat → Prop}, P 0 → P 1 → ∀ m, m < 2 → P m := fun h g m hm => by rcases (show m = 0 ∨ m = 1 by omega) with rfl | rfl <;> assumption
  have l3 : ∀ {P : Nat → Prop}, P 0 → P 1 → P 2 → ∀ m, m < 3 → P m := fun h g k m hm => by rcases (show m = 0 ∨ m = 1 ∨ m = 2 by omega) with rfl | rfl | rfl <;> assumption
  cases b0
  · cases b1
    · cases b2
      · cases b3
        · exact .inl rfl
        · exact .inr ⟨rfl, 3, by decide, rfl, l3 (P := fun m => [false, false, false, true][m]? = some false) rfl rfl rfl⟩
      · exact .inr ⟨rfl, 2, by decide, rfl, l2 (P := fun m => [false, false, true, b3][m]? = some false) rfl rfl⟩
    · exact .inr ⟨rfl, 1, by decide, rfl, l1 (P := fun m => [false, true, b2, b3][m]? = some false) rfl⟩
  · exact .inr ⟨rfl, 0, by decide, rfl, fun m h => absurd h (z m)⟩
/-- a call of sight in a turn -/
theorem sgt_turn {K : PySem.W.Frag} {mg : Str → Option Value} {w : World} (T : Txt K mg w) {p a fa : Addr} {ws ps bs : List V} {d : Ro} {G : Hp} {bad late odd many : V} {b0 b1 b2 b3 : Bool} {j : Nat} {Q : VK} {N : VK} (ro : Roll K G a ws ps bs fa d) (hj : j < 4)
    (ht : [b0, b1, b2, b3][j]? = some true) (hf : ∀ m, m < j → [b0, b1, b2, b3][m]? = some false) (o1 : Od K true p fa G bad) (o2 : Od K false p fa G late) (n2 : ∀ i, late = .int i → i = (ps.length : Nat) ∨ i = -1) (o3 : Od K false p fa G odd) (n3 : ∀ u, odd = .str u → lkW.contains u = false)
    (o4 : Od K false p fa G many) (n4 : ∀ i, many = .int i → i < 1) (k : ∀ (H' : Hp) (t : Addr), Same G H' → H' t = some (.tup (dueL j odd)) → Q (.ref t) H') :
    spSgt K [if b0 = true then bad else .ref a, if b1 = true then late else .int 0, if b2 = true then odd else .str "wrong", if b3 = true then many else .int 2000] G N (Wsh K Q) := by
  have lp := some_len ro.p.p
  have p1 := ro.ok.p1
  have nin : numB (some 0) ps.length = true := by
    unfold numB btwB
    simp
    omega
  have q2 : numB (intQ late) ps.length = false := by
    cases e : late with
    | int i =>
      have := n2 i e
      unfold numB btwB intQ
      simp
      omega
    | _ => rfl
  have q4 : lowB (intQ many) = false := by
    cases e : many with
    | int i =>
      have := n4 i e
      unfold lowB intQ
      simp
      omega
    | _ => rfl
  refine ⟨_, _, _, _, rfl, ?_⟩
  match j, hj with
  | 0, _ =>
    obtain rfl : b0 = true := Option.some.inj ht
    exact .inl ⟨o1.noRo T, told_ro T fun H' t _ s h => k H' t s h⟩
  | 1, _ =>
    obtain rfl : b0 = false := Option.some.inj (hf 0 (by decide))
    obtain rfl : b1 = true := Option.some.inj ht
    exact .inr ⟨a, fa, ws, ps, bs, d, _, rfl, ro, o2.isI, .inl ⟨q2, told_num T fun H' t _ s h => k H' t s h⟩⟩
  | 2, _ =>
    obtain rfl : b0 = false := Option.some.inj (hf 0 (by decide))
    obtain rfl : b1 = false := Option.some.inj (hf 1 (by decide))
    obtain rfl : b2 = true := Option.some.inj ht
    exact .inr ⟨a, fa, ws, ps, bs, d, some 0, rfl, ro, .inl ⟨0, rfl, rfl⟩, .inr ⟨nin, .inl ⟨o3.noW n3, told_wd T fun H' t _ s h => k H' t s h⟩⟩⟩
  | 3, _ =>
    obtain rfl : b0 = false := Option.some.inj (hf 0 (by decide))
    obtain rfl : b1 = false := Option.some.inj (hf 1 (by decide))
    obtain rfl : b2 = false := Option.some.inj (hf 2 (by decide))
    obtain rfl : b3 = true := Option.some.inj ht
    exact .inr ⟨a, fa, ws, ps, bs, d, some 0, rfl, ro, .inl ⟨0, rfl, rfl⟩, .inr ⟨nin, .inr ⟨⟨"wrong", rfl, by decide +kernel⟩, _, o4.isI, q4, told_num T fun H' t _ s h => k H' t s h⟩⟩⟩
end K55

set_option maxRecDepth 100000
set_option maxHeartbeats 8000000
namespace K55
open PySem PySem.Spec PyProof.Rows L2 He VH RZ
open LamX (Fx)
/-! a turn of the law -/
abbrev sLaw : Stmt := top 111
abbrev nLaw : List Str := ["_law_script", "_law_k", "_law_well_here", "_law_plan", "_law_turn", "_law_bad", "_law_late", "_law_odd", "_law_many", "_law_ways", "_law_due", "_law_one_here", "_law_two", "_law_three", "_law_four", "_law_part"]
theorem scLaw : FnScope nLaw ["_law_script"] (defScope sLaw) := ⟨rfl, rfl, rfl, by decide +kernel, rfl, by decide +kernel, by decide +kernel⟩
abbrev LwCx (P : Program) (w : World) (K : PySem.W.Frag) (mg : Str → Option Value) (base : Heap) (f : Addr) (cdv : Value) (A : Around) (outer : List Env) (s : Shared) (H : Hp) (E : XK) (pn : List (Addr × Obj)) : Cx :=
  (cxOf CX0 P w K mg base nLaw "law" (defScope sLaw) f cdv A outer s H E).tr pn (fun _ _ => False)
def forB : Stmt → List Stmt
  | .For _ _ b _ _ => b
  | _ => []
def outB : List Stmt := forB ((defBody sLaw).getD 0 (.Pass ⟨0, 0, 0, 0⟩))
def inB : List Stmt := forB (outB.getD 2 (.Pass ⟨0, 0, 0, 0⟩))
/-- what holds within a turn of the law's own loop -/
structure Mz (K : PySem.W.Frag) (Tt : List (Addr × Str)) (sc p a fa : Addr) (ns : List Int) (ws ps bs : List V) (d : Ro) (G : Hp) : Prop where
  sq : SqL K G sc (ns.map V.int)
  dp : sc ≠ p ∨ ∀ G, SqL K G sc (ns.map V.int)
  wl : Well G p
  tb : LamX.Tabs Tt G
  ro : Roll K G a ws ps bs fa d
section
variable {K : PySem.W.Frag} {Tt : List (Addr × Str)} {sc p a fa : Addr} {ns : List Int} {ws ps bs : List V} {d : Ro} {G G' : Hp}
theorem Mz.bxa (M : Mz K Tt sc p a fa ns ws ps bs d G) (x : Bx p G G') (w : Well G' p) (t : LamX.Tabs Tt G') : Mz K Tt sc p a fa ns ws ps bs d G' :=
  ⟨sql_bx M.sq M.dp x, M.dp, w, t, M.ro.fx (x.fx M.wl)⟩
theorem Mz.but (M : Mz K Tt sc p a fa ns ws ps bs d G) (x : But p G G') (w : Well G' p) : Mz K Tt sc p a fa ns ws ps bs d G' := M.bxa (Bx.but x) w (tabs_but M.tb M.wl x)
theorem Mz.same (M : Mz K Tt sc p a fa ns ws ps bs d G) (s : Same G G') : Mz K Tt sc p a fa ns ws ps bs d G' := M.bxa (Bx.same s) (M.wl.same s) (M.tb.ext s)
theorem Mz.ext (M : Mz K Tt sc p a fa ns ws ps bs d G) (s : LamX.ExtN G G') (t : LamX.Tabs Tt G') : Mz K Tt sc p a fa ns ws ps bs d G' := M.bxa (Bx.ext s) (M.wl.ext s) t
end
/-- one of a list of odd things -/
theorem one_od {K : PySem.W.Frag} {Tt : List (Addr × Str)} {sc p a fa L : Addr} {ns : List Int} {ws ps bs : List V} {d : Ro} {G : Hp} {fl : Bool} {xs : List V} {Pr : V → Prop} {R : VK} (M : Mz K Tt sc p a fa ns ws ps bs d G) (nL : G L = none) (h0 : 0 < xs.length) (h1 : xs.length ≤ 1000)
    (hx : ∀ x ∈ xs, Od K fl p fa G x ∧ Pr x) (k : ∀ (G' : Hp) (x : V), Mz K Tt sc p a fa ns ws ps bs d G' → Bx p G G' → Od K fl p fa G' x → Pr x → R x G') : spOne K [.ref p, .ref L] (upd G L (.lst xs)) R E0 := by
  have SL := Same.new (o := .lst xs) nL
  have M1 := M.same SL
  refine ⟨p, L, _, rfl, M1.wl, M.wl.new nL, upd_same, h0, by omega, fun G' x hm w' b' => ?_⟩
  have B : Bx p G G' := fun b o n e t => b' b o n (SL b o e)
  obtain ⟨o, q⟩ := hx x hm
  exact k G' x (M1.but b' w') B (o.bx M.wl B) q
theorem Bx.trans {a : Addr} {H H1 H2 : Hp} (h : Bx a H H1) (g : Bx a H1 H2) : Bx a H H2 := fun b o n e t => g b o n (h b o n e t) t
section
variable {P : Program} {w : World} {K : PySem.W.Frag} {mg : Str → Option Value} {base : Heap} {f c Pt : Addr} {A : Around} {outer : List Env} {s : Shared} {H0 : Hp} {E : XK} {pn : List (Addr × Obj)}
theorem segT (T : Txt K mg w) (fns : Fns K) {Tt : List (Addr × Str)} (TB : LamX.TabB base mg c Pt) (hm : ((Pt, ("law" ++ ".<locals>.") ++ "<lambda>") : Addr × Str) ∈ Tt) (hu' : ∀ p ∈ Tt, p.1 = Pt → p.2 = ("law" ++ ".<locals>.") ++ "<lambda>") (hr : Room 10 (LwCx P w K mg base f (.ref c) A outer s H0 E pn).A) :
    ∃ t, PSs (LwCx P w K mg base f (.ref c) A outer s H0 E pn) inB t ∧ ∀ (En : Ends) (sc p a fa : Addr) (ns : List Int) (ws ps bs : List V) (d : Ro) (v1 v4 v5 v6 v7 v8 v9 v10 v11 v12 v13 v14 v15 : Option V) (G : Hp), Mz K Tt sc p a fa ns ws ps bs d G →
      (∀ (v5 v6 v7 v8 v9 v10 v11 v12 v13 v14 v15 : Option V) (G : Hp), Mz K Tt sc p a fa ns ws ps bs d G → En.nx [some (.ref sc), v1, some (.ref p), some (.ref a), v4, v5, v6, v7, v8, v9, v10, v11, v12, v13, v14, v15] G) →
      (∀ (v5 v6 v7 v8 v9 v10 v11 v12 v13 v14 v15 : Option V) (G : Hp), Mz K Tt sc p a fa ns ws ps bs d G → En.ct [some (.ref sc), v1, some (.ref p), some (.ref a), v4, v5, v6, v7, v8, v9, v10, v11, v12, v13, v14, v15] G) →
      t En [some (.ref sc), v1, some (.ref p), some (.ref a), v4, v5, v6, v7, v8, v9, v10, v11, v12, v13, v14, v15] G := by
  obtain ⟨fdO, FO⟩ := fns.f_l_one
  obtain ⟨fdD, FD⟩ := fns.f_l_draw
  obtain ⟨fdY, FY⟩ := fns.f_l_said
  obtain ⟨fdS, FS⟩ := fns.f_sight
  obtain ⟨fdL, FL⟩ := fns.f_Rollout_len
  obtain ⟨mA, kA⟩ := kSgA FS
  obtain ⟨mB, kB⟩ := kSgB FS
  have GO : FnOk P w K mg base CX0 2 (ga K "_law_one") fdO ["_law_well_here", "_law_some"] (spOne K) := ok_one FO FD T.m_l_draw T.g_int T.g_len
  have GD : FnOk P w K mg base CX0 1 (ga K "_law_draw") fdD ["_law_well_here", "_law_much"] spDraw := ok_draw FD T.g_int
  have GS : FnOk P w K mg base (L2.CX P w) 6 (ga K "sight") fdS pSgt (spSgt K) := ok_sgt FS T fns
  have big : 1000 < sizeLine := by decide
  have FYk := FY.kp
  have b0 := bSaid FY
  have rm : ∀ {k : Nat}, k ≤ 10 → Room k (A.deeper (envOfC "law" (defScope sLaw) s.heap.objs.size f (.ref c))) := fun h => hr.mono h
  obtain ⟨oc, od, dV, kV, doc, pm, an, cdv, ct, osl, rfl, lk, hcd, _, _⟩ := FY.ex
  refine ⟨_, pss_cons (ps_set (X := (LwCx P w K mg base f (.ref c) A outer s H0 E pn)) (i := 5) scLaw.nd rfl (Or.inl rfl) (pe_call GO (rm (by decide)) (by rfl) T.m_l_one FO.kp (bOne FO) .nil pass0 (pa_cons (pv 2) (pa_cons (pe_lst (pa_cons pe_non (pa_cons pe_int (pa_cons pe_str (pa_cons (pe_fld (pv 3) (by rfl)) (pa_cons (pe_tup pa_nil) (pa_cons (pe_lst (pa_cons (pv 3) pa_nil)) pa_nil))))))) pa_nil))))
    (pss_cons (ps_set (i := 6) scLaw.nd rfl (Or.inl rfl) (pe_call GO (rm (by decide)) (by rfl) T.m_l_one FO.kp (bOne FO) .nil pass0 (pa_cons (pv 2) (pa_cons (pe_lst (pa_cons (pe_callB (call_lenR (X := (LwCx P w K mg base f (.ref c) A outer s H0 E pn)) T FL (rm (by decide))) (by rfl) T.g_len boot_len (pa_cons (pv 3) pa_nil)) (pa_cons (pe_un un_neg pe_int) (pa_cons pe_non (pa_cons pe_bl (pa_cons pe_str (pa_cons (pe_lst (pa_cons pe_int pa_nil)) (pa_cons (pe_tup pa_nil) pa_nil)))))))) pa_nil))))
    (pss_cons (ps_set (i := 7) scLaw.nd rfl (Or.inl rfl) (pe_call GO (rm (by decide)) (by rfl) T.m_l_one FO.kp (bOne FO) .nil pass0 (pa_cons (pv 2) (pa_cons (pe_lst (pa_cons pe_str (pa_cons pe_str (pa_cons pe_non (pa_cons pe_int (pa_cons (pe_tup (pa_cons pe_str pa_nil)) (pa_cons (pe_lst (pa_cons pe_str pa_nil)) (pa_cons pe_dnewK (pa_cons pe_bl (pa_cons pe_str pa_nil)))))))))) pa_nil))))
    (pss_cons (ps_set (i := 8) scLaw.nd rfl (Or.inl rfl) (pe_call GO (rm (by decide)) (by rfl) T.m_l_one FO.kp (bOne FO) .nil pass0 (pa_cons (pv 2) (pa_cons (pe_lst (pa_cons pe_int (pa_cons (pe_un un_neg pe_int) (pa_cons pe_non (pa_cons pe_bl (pa_cons pe_str (pa_cons (pe_lst (pa_cons pe_int pa_nil)) pa_nil))))))) pa_nil))))
    (pss_cons (ps_setLc (i := 9) (own := [("_law_part", 15)]) (g := gName 15) (tt := tYes) (te := tOp rEq (tCall spDraw [] E0 (tCons (tVar 2) (tCons (tC (.int 3)) tNil))) (tC (.int 0))) rfl scLaw.nd rfl rfl (sw_true rfl rfl rfl (by decide +kernel)) (pi_range1 (by rfl) T.g_range (pa_cons pe_int pa_nil)) (blkOk_by (N := nLaw) (sc := defScope sLaw) (by decide +kernel)) (fun _ _ _ _ _ => pg_name (i := 15) scLaw.nd rfl (Or.inl rfl)) (fun _ _ _ _ _ => pts_nil) (fun _ _ _ _ _ => pe_cmpR op_eq (pe_call GD (rm (by decide)) (by rfl) T.m_l_draw FD.kp (bDrw FD) .nil pass0 (pa_cons (pv 2) (pa_cons pe_int pa_nil))) pe_int (nomark _)))
    (pss_cons (ps_if (pt_cmpR op_notIn_seq pe_bl (pv 9) (by rfl)) (pss_one ps_continue) pss_nil)
    (pss_cons (ps_set (i := 10) scLaw.nd rfl (Or.inl rfl) (pe_ix ix_list (pe_lst (pa_cons (pe_tup (pa_cons pe_str (pa_cons (pe_un un_neg pe_int) pa_nil))) (pa_cons (pe_tup (pa_cons pe_str (pa_cons pe_str pa_nil))) (pa_cons (pe_tup (pa_cons pe_str (pa_cons (pv 7) pa_nil))) (pa_cons (pe_tup (pa_cons pe_str (pa_cons pe_str pa_nil))) pa_nil))))) (pe_bm PySem.F.plainAttrs_list PySem.F.slot_list_index PySem.F.type_list_index mt_index (pv 9) (pa_cons pe_bl pa_nil)) (fun _ _ => rfl)))
    (pss_cons (ps_set (i := 11) scLaw.nd rfl (Or.inr rfl) (pe_ifExp (pt_val (pe_ix ix_list (pv 9) pe_int (fun _ _ => rfl))) (pv 5) (pv 3)))
    (pss_cons (ps_asg (pe_tup (pa_cons (pe_ifExp (pt_val (pe_ix ix_list (pv 9) pe_int (fun _ _ => rfl))) (pv 6) pe_int) (pa_cons (pe_ifExp (pt_val (pe_ix ix_list (pv 9) pe_int (fun _ _ => rfl))) (pv 7) pe_str) pa_nil))) (pg_tup rfl (pgs_cons (pg_name (i := 12) scLaw.nd rfl (Or.inr rfl)) (pgs_cons (pg_name (i := 13) scLaw.nd rfl (Or.inr rfl)) pgs_nil))))
    (pss_cons (ps_set (i := 14) scLaw.nd rfl (Or.inr rfl) (pe_ifExp (pt_val (pe_ix ix_list (pv 9) pe_int (fun _ _ => rfl))) (pv 8) pe_int))
    (pss_cons (ps_if (pt_cmpR (op_neG (X := (LwCx P w K mg base f (.ref c) A outer s H0 E pn)) (rnG_tup mon_DS eqG_DS) (rm (by decide)))
          (LamX.pe_lamcall (X := (LwCx P w K mg base f (.ref c) A outer s H0 E pn)) (T := Tt) (TT := LamX.TTpair K 2 (clauses K) "none") (k := 6) (t := fun E => tCallN 3 1 (spSgt K) (fun vs zs => vs ++ ((([] : List (Str × V)).map (·.2)) ++ zs)) E (tCons (tVar 11) (tCons (tVar 12) (tCons (tVar 13) tNil))) (tCons (tVar 14) tNil)) (by rfl) T.m_l_said FYk lk hcd b0 scSaid rfl (Or.inl rfl)
            (gives (X := (LwCx P w K mg base f (.ref c) A outer s H0 E pn)) T) TB rfl hm hu' (rm (by decide))
            (show LamX.LamS (defScope sLaw) _ from LamX.lamS_by (by decide +kernel)) rfl (fun _ _ _ _ _ => rfl)
            (fun A2 o2 s2 H2 E2 f2 c2 hr2 => pe_callN (X := LamX.lamCx (LwCx P w K mg base f (.ref c) A outer s H0 E pn) A2 o2 s2 H2 E2 _ f2 c2) GS hr2 (by rfl) T.m_sight FS.kp kA (pass_c (takes_of rfl rfl rfl rfl)) (pa_cons (pv 11) (pa_cons (pv 12) (pa_cons (pv 13) pa_nil))) (pk_cons (pv 14) pk_nil)))
          (pv 10) (nomark _)) (pss_one (ps_ret pe_bl)) pss_nil)
    (pss_one (ps_if (pt_cmpR (op_neG (X := (LwCx P w K mg base f (.ref c) A outer s H0 E pn)) (rnG_tup mon_DS eqG_DS) (rm (by decide)))
          (LamX.pe_lamcall (X := (LwCx P w K mg base f (.ref c) A outer s H0 E pn)) (T := Tt) (TT := LamX.TTpair K 2 (clauses K) "none") (k := 6) (t := fun E => tCallN0 4 (spSgt K) (fun vs zs => byN vs ((([] : List (Str × V)).map (·.2)) ++ zs)) E (tCons (tVar 13) (tCons (tVar 11) (tCons (tVar 14) (tCons (tVar 12) tNil))))) (by rfl) T.m_l_said FYk lk hcd b0 scSaid rfl (Or.inl rfl)
            (gives (X := (LwCx P w K mg base f (.ref c) A outer s H0 E pn)) T) TB rfl hm hu' (rm (by decide))
            (show LamX.LamS (defScope sLaw) _ from LamX.lamS_by (by decide +kernel)) rfl (fun _ _ _ _ _ => rfl)
            (fun A2 o2 s2 H2 E2 f2 c2 hr2 => pe_callN0 (X := LamX.lamCx (LwCx P w K mg base f (.ref c) A outer s H0 E pn) A2 o2 s2 H2 E2 _ f2 c2) GS hr2 (by rfl) T.m_sight FS.kp kB (pass_c (takes_of rfl rfl rfl rfl)) (pk_cons (pv 13) (pk_cons (pv 11) (pk_cons (pv 14) (pk_cons (pv 12) pk_nil))))))
          (pv 10) (nomark _)) (pss_one (ps_ret pe_bl)) pss_nil)))))))))))), fun En sc p a fa ns ws ps bs d v1 v4 v5 v6 v7 v8 v9 v10 v11 v12 v13 v14 v15 G M kn kc => ?_⟩
  have lp := some_len M.ro.p.p
  have p6 := M.ro.ok.p6
  -- bad
  obtain ⟨dx, t1', t2, t3, c1, c2, h0, a1, a2', a3⟩ := id M.ro.r
  refine ⟨_, rfl, _, rfl, a, _, dx, _, _, rfl, h0, T.c_Rollout, T.n_Rollout_fill, rfl, (show 0 ≤ sizeLine by decide), fun p3 n3 => ⟨_, rfl, (show 1 ≤ sizeLine by decide), fun p4 n4 => ⟨(show 6 ≤ sizeLine by decide), fun L nL => ?_⟩⟩⟩
  have S3 := Same.new (o := .tup []) n3
  have e3 : upd G p3 (.tup []) p3 = some (.tup []) := upd_same
  have M1 := M.same S3
  generalize upd G p3 (.tup []) = G1 at e3 M1 n4 nL ⊢
  have S4 := Same.new (o := .lst [.ref a]) n4
  have e4 : upd G1 p4 (.lst [.ref a]) p4 = some (.lst [.ref a]) := upd_same
  have n4p := M1.wl.new n4
  have M2 := M1.same S4
  have e3 := S4 _ _ e3
  generalize upd G1 p4 (.lst [.ref a]) = G2 at e3 e4 M2 nL ⊢
  refine one_od (fl := true) (Pr := fun _ => True) M2 nL (show 0 < 6 by decide) (show 6 ≤ 1000 by decide) (fun x hx => ⟨?_, trivial⟩) fun G3 bad M3 _ o1 _ => ?_
  · simp only [List.mem_cons, List.not_mem_nil, or_false] at hx
    rcases hx with rfl | rfl | rfl | rfl | rfl | rfl
    · exact .non
    · exact .int
    · exact .str
    · exact .fil rfl M2.ro.p.f
    · exact .tup e3
    · exact .lst n4p e4
  clear S3 S4 e3 e4 n3 n4 nL M1 M2 M h0 a1 a2' a3
  -- late
  refine ⟨_, rfl, _, rfl, ?_⟩
  dsimp only [tNil]
  refine read_lenR (X := LwCx P w K mg base f (.ref c) A outer s H0 E pn) M3.ro.r (by omega) ?_
  refine ⟨_, rfl, (show 1 ≤ sizeLine by decide), fun p3 n3 => ⟨(show 0 ≤ sizeLine by decide), fun p4 n4 => ⟨(show 7 ≤ sizeLine by decide), fun L nL => ?_⟩⟩⟩
  have S3 := Same.new (o := .lst [.int 0]) n3
  have e3 : upd G3 p3 (.lst [.int 0]) p3 = some (.lst [.int 0]) := upd_same
  have n3p := M3.wl.new n3
  have M1 := M3.same S3
  have o1 := o1.bx M3.wl (Bx.same S3)
  generalize upd G3 p3 (.lst [.int 0]) = G1 at e3 M1 o1 n4 nL ⊢
  have S4 := Same.new (o := .tup []) n4
  have e4 : upd G1 p4 (.tup []) p4 = some (.tup []) := upd_same
  have M2 := M1.same S4
  have o1 := o1.bx M1.wl (Bx.same S4)
  have e3 := S4 _ _ e3
  generalize upd G1 p4 (.tup []) = G2 at e3 e4 M2 o1 nL ⊢
  refine one_od (fl := false) (Pr := fun x => ∀ i, x = .int i → i = (ps.length : Nat) ∨ i = -1) M2 nL (show 0 < 7 by decide) (show 7 ≤ 1000 by decide) (fun x hx => ?_) fun G4 late M4 b4 o2 q2 => ?_
  · simp only [List.mem_cons, List.not_mem_nil, or_false] at hx
    rcases hx with rfl | rfl | rfl | rfl | rfl | rfl | rfl
    · exact ⟨.int, fun i e => by cases e; exact .inl rfl⟩
    · exact ⟨.int, fun i e => by cases e; exact .inr rfl⟩
    · exact ⟨.non, fun i e => by cases e⟩
    · exact ⟨.bl, fun i e => by cases e⟩
    · exact ⟨.str, fun i e => by cases e⟩
    · exact ⟨.lst n3p e3, fun i e => by cases e⟩
    · exact ⟨.tup e4, fun i e => by cases e⟩
  have o1 := o1.bx M2.wl b4
  clear S3 S4 e3 e4 n3 n4 nL M1 M2 M3 b4 n3p n4p
  -- odd
  refine ⟨_, rfl, (show 1 ≤ sizeLine by decide), fun p3 n3 => ⟨(show 1 ≤ sizeLine by decide), fun p4 n4 => fun p5 n5 => ⟨(show 9 ≤ sizeLine by decide), fun L nL => ?_⟩⟩⟩
  have S3 := Same.new (o := .tup [.str "right"]) n3
  have e3 : upd G4 p3 (.tup [.str "right"]) p3 = some (.tup [.str "right"]) := upd_same
  have M1 := M4.same S3
  have b1 := Bx.same (a := p) S3
  generalize upd G4 p3 (.tup [.str "right"]) = G1 at e3 M1 b1 n4 n5 nL ⊢
  have S4 := Same.new (o := .lst [.str "right"]) n4
  have e4 : upd G1 p4 (.lst [.str "right"]) p4 = some (.lst [.str "right"]) := upd_same
  have n4p := M1.wl.new n4
  have M2 := M1.same S4
  have e3 := S4 _ _ e3
  have b1 := b1.trans (Bx.same S4)
  generalize upd G1 p4 (.lst [.str "right"]) = G2 at e3 e4 M2 b1 n5 nL ⊢
  have S5 := Same.new (o := .dK []) n5
  have e5 : upd G2 p5 (.dK []) p5 = some (.dK []) := upd_same
  have M5 := M2.same S5
  have e3 := S5 _ _ e3
  have e4 := S5 _ _ e4
  have b1 := b1.trans (Bx.same S5)
  generalize upd G2 p5 (.dK []) = G5 at e3 e4 e5 M5 b1 nL ⊢
  refine one_od (fl := false) (Pr := fun x => ∀ u, x = .str u → lkW.contains u = false) M5 nL (show 0 < 9 by decide) (show 9 ≤ 1000 by decide) (fun x hx => ?_) fun G6 odd M6 b6 o3 q3 => ?_
  · simp only [List.mem_cons, List.not_mem_nil, or_false] at hx
    rcases hx with rfl | rfl | rfl | rfl | rfl | rfl | rfl | rfl | rfl
    · exact ⟨.str, fun i e => by cases e; decide +kernel⟩
    · exact ⟨.str, fun i e => by cases e; decide +kernel⟩
    · exact ⟨.non, fun i e => by cases e⟩
    · exact ⟨.int, fun i e => by cases e⟩
    · exact ⟨.tup e3, fun i e => by cases e⟩
    · exact ⟨.lst n4p e4, fun i e => by cases e⟩
    · exact ⟨.dct e5, fun i e => by cases e⟩
    · exact ⟨.bl, fun i e => by cases e⟩
    · exact ⟨.str, fun i e => by cases e; decide +kernel⟩
  have b1 := b1.trans b6
  have o1 := o1.bx M4.wl b1
  have o2 := o2.bx M4.wl b1
  clear S3 S4 S5 e3 e4 e5 n3 n4 n5 nL M1 M2 M4 M5 b1 b6 n4p
  -- many
  refine ⟨_, rfl, _, rfl, (show 1 ≤ sizeLine by decide), fun p3 n3 => ⟨(show 6 ≤ sizeLine by decide), fun L nL => ?_⟩⟩
  have S3 := Same.new (o := .lst [.int 3]) n3
  have e3 : upd G6 p3 (.lst [.int 3]) p3 = some (.lst [.int 3]) := upd_same
  have n3p := M6.wl.new n3
  have M1 := M6.same S3
  have b1 := Bx.same (a := p) S3
  generalize upd G6 p3 (.lst [.int 3]) = G1 at e3 M1 b1 nL ⊢
  refine one_od (fl := false) (Pr := fun x => ∀ i, x = .int i → i < 1) M1 nL (show 0 < 6 by decide) (show 6 ≤ 1000 by decide) (fun x hx => ?_) fun G7 many M7 b7 o4 q4 => ?_
  · simp only [List.mem_cons, List.not_mem_nil, or_false] at hx
    rcases hx with rfl | rfl | rfl | rfl | rfl | rfl
    · exact ⟨.int, fun i e => by cases e; decide⟩
    · exact ⟨.int, fun i e => by cases e; decide⟩
    · exact ⟨.non, fun i e => by cases e⟩
    · exact ⟨.bl, fun i e => by cases e⟩
    · exact ⟨.str, fun i e => by cases e⟩
    · exact ⟨.lst n3p e3, fun i e => by cases e⟩
  have b1 := b1.trans b7
  have o1 := o1.bx M6.wl b1
  have o2 := o2.bx M6.wl b1
  have o3 := o3.bx M6.wl b1
  clear S3 e3 n3 nL M1 M6 b1 b7 n3p
  -- ways
  refine ⟨4, rfl, by decide, by decide, fun D nD => ?_⟩
  have na := M7.wl.new nD
  have S0 := Same.new (o := .lst []) nD
  refine lc_range (lo := 0) (n := 4) (fun i G => Well G p ∧ But p G7 G ∧ ∃ bs : List Bool, bs.length = i ∧ G D = some (.lst (bs.map V.bl))) ⟨M7.wl.same S0, But.of S0, [], rfl, upd_same⟩ (fun i G li g => ?_) (fun G g => ?_)
  · obtain ⟨wG, bG, bs, lb, hD⟩ := g
    refine ⟨rfl, _, rfl, p, 3, rfl, wG, by decide, by decide, fun G2 d d0 d1 w2 b2 => ⟨rfl, ?_⟩⟩
    have hD2 := b2 _ _ na hD
    refine ⟨_, hD2, ?_, ?_, But.sub bG nD b2, bs ++ [decide (V.int d = V.int 0)], by rw [List.length_append, lb]; rfl, ?_⟩
    · rw [List.length_map, lb]
      omega
    · obtain ⟨x, y, zz, e⟩ := w2
      exact ⟨x, y, zz, by rw [upd_ne (Ne.symm na)]; exact e⟩
    · rw [upd_same, List.map_append]
      rfl
  obtain ⟨wG, bG, fs, lb, hD⟩ := g
  have M8 := M7.but bG wG
  have o1 := o1.bx M7.wl (Bx.but bG)
  have o2 := o2.bx M7.wl (Bx.but bG)
  have o3 := o3.bx M7.wl (Bx.but bG)
  have o4 := o4.bx M7.wl (Bx.but bG)
  clear S0 nD bG wG M7
  match fs, lb with
  | [f0, f1, f2, f3], _ =>
  have hD : G D = some (.lst [.bl f0, .bl f1, .bl f2, .bl f3]) := hD
  -- none of them
  refine ⟨_, rfl, D, _, rfl, .inl (SqL.of hD), rfl, rfl, _, rfl, ?_⟩
  rcases first_true f0 f1 f2 f3 with no | ⟨yes, j, hj, ht, hf⟩
  · rw [no]
    exact iteT (kc _ _ _ _ _ _ _ _ _ _ _ _ M8)
  rw [yes]
  refine iteF ?_
  -- due
  refine ⟨_, rfl, (show 2 ≤ sizeLine by decide), fun t0 n0 => ⟨(show 2 ≤ sizeLine by decide), fun t1 n1 => ⟨_, rfl, (show 2 ≤ sizeLine by decide), fun t2' n2 => ⟨(show 2 ≤ sizeLine by decide), fun t3' n3 => ⟨(show 4 ≤ sizeLine by decide), fun L nL => ?_⟩⟩⟩⟩⟩
  have S0 := Same.new (o := .tup [.str "rollout", .int (-1)]) n0
  have h0 : upd G t0 (.tup [.str "rollout", .int (-1)]) t0 = some (.tup (dueL 0 odd)) := upd_same
  generalize upd G t0 (.tup [.str "rollout", .int (-1)]) = G1 at S0 h0 n1 n2 n3 nL ⊢
  have S1 := Same.new (o := .tup [.str "number", .str "phase"]) n1
  have h1 : upd G1 t1 (.tup [.str "number", .str "phase"]) t1 = some (.tup (dueL 1 odd)) := upd_same
  have h0 := S1 _ _ h0
  generalize upd G1 t1 (.tup [.str "number", .str "phase"]) = G2 at S1 h0 h1 n2 n3 nL ⊢
  have S2 := Same.new (o := .tup [.str "word", odd]) n2
  have h2 : upd G2 t2' (.tup [.str "word", odd]) t2' = some (.tup (dueL 2 odd)) := upd_same
  have h0 := S2 _ _ h0
  have h1 := S2 _ _ h1
  generalize upd G2 t2' (.tup [.str "word", odd]) = G3 at S2 h0 h1 h2 n3 nL ⊢
  have S3 := Same.new (o := .tup [.str "number", .str "most"]) n3
  have h3 : upd G3 t3' (.tup [.str "number", .str "most"]) t3' = some (.tup (dueL 3 odd)) := upd_same
  have h0 := S3 _ _ h0
  have h1 := S3 _ _ h1
  have h2 := S3 _ _ h2
  generalize upd G3 t3' (.tup [.str "number", .str "most"]) = G4 at S3 h0 h1 h2 h3 nL ⊢
  have SL := Same.new (o := .lst [.ref t0, .ref t1, .ref t2', .ref t3']) nL
  have hL : upd G4 L (.lst [.ref t0, .ref t1, .ref t2', .ref t3']) L = some (.lst [.ref t0, .ref t1, .ref t2', .ref t3']) := upd_same
  have h0 := SL _ _ h0
  have h1 := SL _ _ h1
  have h2 := SL _ _ h2
  have h3 := SL _ _ h3
  have S := S0.trans (S1.trans (S2.trans (S3.trans SL)))
  have M9 := M8.same S
  have hD9 := S _ _ hD
  have o1 := o1.bx M8.wl (Bx.same S)
  have o2 := o2.bx M8.wl (Bx.same S)
  have o3 := o3.bx M8.wl (Bx.same S)
  have o4 := o4.bx M8.wl (Bx.same S)
  generalize upd G4 L (.lst [.ref t0, .ref t1, .ref t2', .ref t3']) = G9 at hL h0 h1 h2 h3 M9 hD9 o1 o2 o3 o4 ⊢
  clear S S0 S1 S2 S3 SL M8 n0 n1 n2 n3 nL hD
  have at_ : ∃ t, atI [V.ref t0, V.ref t1, V.ref t2', V.ref t3'] (j : Int) = some (.ref t) ∧ G9 t = some (.tup (dueL j odd)) := by
    match j, hj with
    | 0, _ => exact ⟨_, rfl, h0⟩
    | 1, _ => exact ⟨_, rfl, h1⟩
    | 2, _ => exact ⟨_, rfl, h2⟩
    | 3, _ => exact ⟨_, rfl, h3⟩
  clear h0 h1 h2 h3
  obtain ⟨t, eat, hdu⟩ := at_
  have pj : ∀ {b : Bool} {m : Nat}, [f0, f1, f2, f3][m]? = some b → ([V.bl f0, .bl f1, .bl f2, .bl f3] : List V)[m]? = some (.bl b) := fun {b m} h => by
    have : ([f0, f1, f2, f3].map V.bl)[m]? = some (.bl b) := by rw [List.getElem?_map, h]; rfl
    exact this
  refine ⟨_, rfl, .inl ⟨rfl, _, SqL.of hD9⟩, D, _, .bl true, j, .bl true, rfl, rfl, SqL.of hD9, rfl, rfl, pj ht, rfl, fun m z hm hz => ?_, L, _, _, _, rfl, rfl, SqL.of hL, eat, ?_⟩
  · rw [pj (hf m hm)] at hz
    cases hz
    rfl
  -- what is asked
  dsimp only [gName, tSeq, tAsg]
  refine run_if f0 bad (.ref a) (fun R r => ⟨_, rfl, D, _, 0, _, rfl, rfl, SqL.of hD9, rfl, f0, rfl, r⟩) (fun R r => ⟨_, rfl, r⟩) (fun R r => ⟨_, rfl, r⟩) ?_
  dsimp only [gName, tSeq, tAsg, gTup]
  refine run_if f1 late (.int 0) (fun R r => ⟨_, rfl, D, _, 1, _, rfl, rfl, SqL.of hD9, rfl, f1, rfl, r⟩) (fun R r => ⟨_, rfl, r⟩) (fun R r => r) ?_
  refine run_if f2 odd (.str "wrong") (fun R r => ⟨_, rfl, D, _, 2, _, rfl, rfl, SqL.of hD9, rfl, f2, rfl, r⟩) (fun R r => ⟨_, rfl, r⟩) (fun R r => r) ?_
  refine ⟨(show 2 ≤ sizeLine by decide), fun u nu => ⟨u, _, rfl, SqT.of upd_same, rfl, ?_⟩⟩
  have Su := Same.new (o := .tup [if f1 = true then late else .int 0, if f2 = true then odd else .str "wrong"]) nu
  have M10 := M9.same Su
  have hD10 := Su _ _ hD9
  have hdu := Su _ _ hdu
  have o1 := o1.bx M9.wl (Bx.same Su)
  have o2 := o2.bx M9.wl (Bx.same Su)
  have o3 := o3.bx M9.wl (Bx.same Su)
  have o4 := o4.bx M9.wl (Bx.same Su)
  generalize upd G9 u (.tup [if f1 = true then late else .int 0, if f2 = true then odd else .str "wrong"]) = G10 at M10 hD10 hdu o1 o2 o3 o4 ⊢
  clear Su M9 hD9 nu hL
  refine ⟨_, _, rfl, _, _, rfl, rfl, ?_⟩
  dsimp only [tSeq, tAsg]
  refine run_if f3 many (.int 2000) (fun R r => ⟨_, rfl, D, _, 3, _, rfl, rfl, SqL.of hD10, rfl, f3, rfl, r⟩) (fun R r => ⟨_, rfl, r⟩) (fun R r => r) ?_
  -- asked once
  refine ⟨M10.tb, fun G11 ex tb11 => ?_⟩
  have M11 := M10.ext ex tb11
  have hdu := ex _ _ hdu (fun _ z => by cases z)
  have o1 := o1.bx M10.wl (Bx.ext ex)
  have o2 := o2.bx M10.wl (Bx.ext ex)
  have o3 := o3.bx M10.wl (Bx.ext ex)
  have o4 := o4.bx M10.wl (Bx.ext ex)
  clear ex M10 hD10
  refine ⟨_, rfl, _, rfl, _, rfl, _, rfl, rfl, rfl, sgt_turn T M11.ro hj ht hf o1 o2 q2 o3 q3 o4 q4 fun G12 t12 S12 h12 => ⟨_, rfl, ?_⟩⟩
  have M12 := M11.same S12
  have hdu := S12 _ _ hdu
  have o1 := o1.bx M11.wl (Bx.same S12)
  have o2 := o2.bx M11.wl (Bx.same S12)
  have o3 := o3.bx M11.wl (Bx.same S12)
  have o4 := o4.bx M11.wl (Bx.same S12)
  refine ⟨due_eq j o3 h12 hdu, fun G13 S13 => ⟨false, rfl, iteF ?_⟩⟩
  have M13 := M12.same S13
  have hdu := S13 _ _ hdu
  have o1 := o1.bx M12.wl (Bx.same S13)
  have o2 := o2.bx M12.wl (Bx.same S13)
  have o3 := o3.bx M12.wl (Bx.same S13)
  have o4 := o4.bx M12.wl (Bx.same S13)
  clear M11 M12 S12 h12 S13 tb11
  -- asked again, by names
  refine ⟨M13.tb, fun G14 ex tb14 => ?_⟩
  have M14 := M13.ext ex tb14
  have hdu := ex _ _ hdu (fun _ z => by cases z)
  have o1 := o1.bx M13.wl (Bx.ext ex)
  have o2 := o2.bx M13.wl (Bx.ext ex)
  have o3 := o3.bx M13.wl (Bx.ext ex)
  have o4 := o4.bx M13.wl (Bx.ext ex)
  refine ⟨_, rfl, _, rfl, _, rfl, _, rfl, rfl, sgt_turn T M14.ro hj ht hf o1 o2 q2 o3 q3 o4 q4 fun G15 t15 S15 h15 => ⟨_, rfl, ?_⟩⟩
  have M15 := M14.same S15
  have hdu := S15 _ _ hdu
  have o3 := o3.bx M14.wl (Bx.same S15)
  refine ⟨due_eq j o3 h15 hdu, fun G16 S16 => ⟨false, rfl, iteF ?_⟩⟩
  exact kn _ _ _ _ _ _ _ _ _ _ _ _ (M15.same S16)
end
end K55

set_option maxRecDepth 100000
set_option maxHeartbeats 4000000
namespace K55
open PySem PySem.Spec PyProof.Rows L2 He VH RZ
open LamX (Fx)
/-! the law -/
abbrev nmL : Str := ("law" ++ ".<locals>.") ++ "<lambda>"
abbrev Tt1 (Pt : Addr) : List (Addr × Str) := [(Pt, nmL)]
theorem hu1 {Pt : Addr} : ∀ p ∈ Tt1 Pt, p.1 = Pt → p.2 = nmL := fun p hp _ => by rw [List.mem_singleton.mp hp]
/-- a def whose code object is known -/
theorem okC {P : Program} {w : World} {K : PySem.W.Frag} {mg : Str → Option Value} {base : Heap} {x qual : Str} {params : Arguments} {body : List Stmt} {scope : Scope} {dvs : List V} {kws : List (Str × V)} {p : He.Defn} {c : Addr} {fd : FuncData} {CX : CXT} {N ps : List Str} {k : Nat} {sp : Sp}
    (F : FunD K x qual params body scope dvs kws (He.fAd K p) fd) (hc : He.codeOf K p = c) (S : FnScope N ps scope) (len : ∀ vs H Q E, sp vs H Q E → vs.length = ps.length)
    (hbody : ∀ (A : Around) (outer : List Env) (s : Shared) (H : Hp) (vs : List V) (Q : VK) (E : XK), Room k (A.deeper (envOfC qual scope s.heap.objs.size (He.fAd K p) (.ref c))) → sp vs H Q E →
      ∃ t, PSs (cxOf CX P w K mg base N qual scope (He.fAd K p) (.ref c) A outer s H E) body t ∧ t { nx := fun _ H' => Q .non H', rt := Q } (L2.start N vs) H) : FnOk P w K mg base CX (k + 1) (He.fAd K p) fd ps sp := by
  obtain ⟨oc, od, dV, kV, doc, pm, an, cdv, ct, osl, rfl, lk, hcd, _, _⟩ := F.ex
  obtain ⟨c1, rfl⟩ := He.codeIn_ref hcd
  have e : He.codeOf K p = c1 := He.codeOf_eq lk rfl
  obtain rfl : c1 = c := e.symm.trans hc
  exact fn_of lk hcd S len fun A outer s H vs Q E hr hsp => hbody A outer s H vs Q E hr hsp
theorem sql_ne {K : PySem.W.Frag} {sc p : Addr} {H : Hp} {xs : List V} (h : SqL K H sc xs) (n : H p = none) : sc ≠ p ∨ ∀ G, SqL K G sc xs := by
  rcases h with (h | ⟨o, h⟩) | h
  · exact .inl (ne_of_none h n)
  · exact .inl (ne_of_none h n)
  · exact .inr fun _ => .inr h
theorem bWell {K : PySem.W.Frag} {f : Addr} {fd : FuncData} (F : FnP K "_law_well" sWell f fd) : Binds K fd ["_law_script", "_law_at"] [] := FunD.bindsN F fun _ _ _ _ _ _ us hl => match us, hl with | [_, _], _ => rfl
def spLaw (K : PySem.W.Frag) (Pt : Addr) : Sp := fun vs H Q _ => ∃ (a : Addr) (ns : List Int), vs = [.ref a] ∧ SqL K H a (ns.map V.int) ∧ ns.length ≤ 63 ∧ LamX.Tabs (Tt1 Pt) H ∧ ∀ H', Q (.bl true) H'
section
variable {P : Program} {w : World} {K : PySem.W.Frag} {mg : Str → Option Value} {base : Heap} {c Pt : Addr} {fd : FuncData}
theorem ok_law (F : FnP K "law" sLaw (He.fAd K ("law", none)) fd) (T : Txt K mg w) (fns : Fns K) (hc : He.codeOf K ("law", none) = c) (TB : LamX.TabB base mg c Pt) : FnOk P w K mg base CX0 12 (He.fAd K ("law", none)) fd ["_law_script"] (spLaw K Pt) := by
  obtain ⟨fdW, FW⟩ := fns.f_l_well
  obtain ⟨fdR, FR⟩ := fns.f_l_careful
  have GW : FnOk P w K mg base CX0 1 (ga K "_law_well") fdW ["_law_script", "_law_at"] (spWell K) := ok_well FW T.g_int
  have GR : FnOk P w K mg base (L2.CX P w) 9 (ga K "_law_careful") fdR ["_law_well_here"] (spCar K) := ok_car FR T fns
  refine okC F hc scLaw (fun vs H Q E h => ?_) (fun A outer s H vs Q E hr h => ?_)
  · obtain ⟨a, ns, rfl, _⟩ := h
    rfl
  have rm : ∀ {k : Nat}, k ≤ 11 → Room k (A.deeper (envOfC "law" (defScope sLaw) s.heap.objs.size (He.fAd K ("law", none)) (.ref c))) := fun h => hr.mono h
  obtain ⟨tT, pT, rT⟩ := segT (P := P) (w := w) (f := He.fAd K ("law", none)) (A := A) (outer := outer) (s := s) (H0 := H) (E := E) (pn := []) (Tt := Tt1 Pt) T fns TB (List.mem_singleton.mpr rfl) hu1 (rm (by decide))
  refine ⟨_, PSs.nox (pss_cons (ps_for (X := LwCx P w K mg base (He.fAd K ("law", none)) (.ref c) A outer s H E []) PassesOwn.never rfl (pi_range1 (by rfl) T.g_range (pa_cons (pe_op op_add (pe_callB call_len_seq (by rfl) T.g_len boot_len (pa_cons (pv 0) pa_nil)) pe_int) pa_nil)) (pg_name (i := 1) scLaw.nd rfl (Or.inl rfl))
      (pss_cons (ps_set (i := 2) scLaw.nd rfl (Or.inr rfl) (pe_call GW (rm (by decide)) (by rfl) T.m_l_well FW.kp (bWell FW) .nil pass0 (pa_cons (pv 0) (pa_cons (pv 1) pa_nil))))
      (pss_cons (ps_set (i := 3) scLaw.nd rfl (Or.inl rfl) (pe_call GR (rm (by decide)) (by rfl) T.m_l_careful FR.kp (bCar FR) .nil passN (pa_cons (pv 2) pa_nil)))
      (pss_one (ps_for PassesOwn.never rfl (pi_range1 (by rfl) T.g_range (pa_cons pe_int pa_nil)) (pg_name (i := 4) scLaw.nd rfl (Or.inl rfl)) pT)))))
    (pss_one (ps_ret pe_bl))), ?_⟩
  obtain ⟨sc, ns, rfl, ha, few, tb, k⟩ := h
  have ln : (ns.map V.int).length = ns.length := List.length_map _
  refine ⟨_, rfl, sc, _, rfl, .inl ha, _, _, rfl, rfl, (((ns.map V.int).length : Nat) : Int) + 1, rfl, by omega, by omega, ?_⟩
  refine for_range (lo := 0) (n := ((((ns.map V.int).length : Nat) : Int) + 1).toNat) (fun i σ G => ∃ v1 v2 v3 v4 v5 v6 v7 v8 v9 v10 v11 v12 v13 v14 v15 : Option V, σ = [some (.ref sc), v1, v2, v3, v4, v5, v6, v7, v8, v9, v10, v11, v12, v13, v14, v15] ∧ SqL K G sc (ns.map V.int) ∧ LamX.Tabs (Tt1 Pt) G)
    ⟨none, none, none, none, none, none, none, none, none, none, none, none, none, none, none, rfl, ha, tb⟩ (fun i σ G lt g => ?_) (fun σ G g => ?_)
  · obtain ⟨v1, v2, v3, v4, v5, v6, v7, v8, v9, v10, v11, v12, v13, v14, v15, rfl, ha, tb⟩ := g
    rw [Int.zero_add]
    refine ⟨_, rfl, _, rfl, sc, ns, i, rfl, ha, few, by omega, fun H3 p np wp S3 => ?_⟩
    have ha3 := sqL_same' S3 ha
    have dp := sql_ne ha np
    have tb3 := tb.ext S3
    clear ha tb S3
    refine ⟨_, rfl, p, rfl, wp, fun d ws ps bs fa a H4 w4 b4 ro lp5 lp6 => ?_⟩
    have M : Mz K (Tt1 Pt) sc p a fa ns ws ps bs d H4 := ⟨sql_bx ha3 dp (Bx.but b4), dp, w4, tabs_but tb3 wp b4, ro⟩
    clear b4 ha3 tb3
    refine ⟨6, rfl, by decide, by decide, ?_⟩
    rw [show ((6 : Int)).toNat = 6 by rfl]
    refine for_range (lo := 0) (n := 6) (fun j σ G => ∃ v4 v5 v6 v7 v8 v9 v10 v11 v12 v13 v14 v15 : Option V, σ = [some (.ref sc), some (.int (i : Int)), some (.ref p), some (.ref a), v4, v5, v6, v7, v8, v9, v10, v11, v12, v13, v14, v15] ∧ Mz K (Tt1 Pt) sc p a fa ns ws ps bs d G)
      ⟨_, _, _, _, _, _, _, _, _, _, _, _, rfl, M⟩ (fun j σ G lj g => ?_) (fun σ G g => ?_)
    · obtain ⟨v4, v5, v6, v7, v8, v9, v10, v11, v12, v13, v14, v15, rfl, M⟩ := g
      exact rT _ sc p a fa ns ws ps bs d _ _ v5 v6 v7 v8 v9 v10 v11 v12 v13 v14 v15 G M (fun v5 v6 v7 v8 v9 v10 v11 v12 v13 v14 v15 G M => ⟨_, _, _, _, _, _, _, _, _, _, _, _, rfl, M⟩) (fun v5 v6 v7 v8 v9 v10 v11 v12 v13 v14 v15 G M => ⟨_, _, _, _, _, _, _, _, _, _, _, _, rfl, M⟩)
    · obtain ⟨v4, v5, v6, v7, v8, v9, v10, v11, v12, v13, v14, v15, rfl, M⟩ := g
      exact ⟨_, _, _, _, _, _, _, _, _, _, _, _, _, _, _, rfl, M.sq, M.tb⟩
  · exact k _
end
end K55

set_option maxRecDepth 100000
set_option maxHeartbeats 0
namespace K55
open PySem PySem.Spec PyProof.Rows L2 He VH
theorem facts {w : World} {K : PySem.W.Frag} {h : Heap} {mg : Str → Option Value} {f : Addr} (X : K.In h) (G : h.Ns mainGlobals mg) (hfa : mg ("law" : Str) = some (.ref f)) (c : He.SaysX fa fn ts tf ex w h K) :
    LamX.LawAtS PySem.Challenge.rw_fillbehind_k55_what_sights_refuse w K L2.CX0 12 63 "_law_script" mg f h := by
  have T := txt_of X G c
  have g : SaysD fa fn K := c.t.d
  have fns := fns_of g
  obtain ⟨fd, F⟩ := g.def_ 29 (d := dd 111 "law") rfl
  have e := hfa.symm.trans (glo_ok X G (g.fact 30 (f := .glo "law") rfl))
  cases e
  have b := FunD.bindsA (ps := ["_law_script"]) F fun _ _ _ _ _ _ us hl => match us, hl with | [_], _ => rfl
  have mem : (("law", none) : He.Defn) ∈ tf := List.mem_singleton.mpr rfl
  refine ⟨fd, [He.cT K ("law", none)], spLaw K (He.cT K ("law", none)).2, fun p hp => ?_, fun p hp => ?_, fun p hp => ?_, fun s v => b s [v] rfl, fun H a ns hl _ hT hS => ?_, fun base hb hg hTB => ?_⟩
  · rw [List.mem_singleton.mp hp]
    exact c.empty _ mem
  · rw [List.mem_singleton.mp hp]
    exact c.out _ mem
  · rw [List.mem_singleton.mp hp]
    exact PySem.W.codeHd_of_K X (c.hd _ mem)
  · refine ⟨a, ns, rfl, hS, hl, fun p hp => ?_, fun _ => rfl⟩
    rw [List.mem_singleton.mp hp]
    exact LamX.TabS.nil (hT _ (List.mem_singleton.mpr rfl))
  · exact ok_law F T fns rfl (hTB _ (List.mem_singleton.mpr rfl))
end K55
open PySem PySem.W PySem.Calls PyProof.Rows
theorem PySem.Challenge.cw_fillbehind_k55_what_sights_refuse_holds : PySem.Challenge.rw_fillbehind_k55_what_sights_refuse.Holds := by
  w_on; o_law
  refine HkD.head_D (N0 := 12) (C := K55.cut) (r := OpenLaw.row PySem.Challenge.rw_fillbehind_k55_what_sights_refuse) (q := view (OpenLaw.row PySem.Challenge.rw_fillbehind_k55_what_sights_refuse).prog [111]) (H := K55.hk) (ob := K55.ob) (M := 20000) (loose := K55.names) (d := HandSHeadRun.topDef (OpenLaw.row PySem.Challenge.rw_fillbehind_k55_what_sights_refuse).prog 111) (kwd := []) K55.ob_eq
    (by kernel_rfl) (fun s => by kernel_rfl) K55.cut_ok K55.pre K55.run (by kernel_rfl) (by kernel_rfl) (by kernel_rfl) (by rfl) (by first | assumption | decide +kernel) (by decide +kernel) ⟨rfl, rfl, rfl, rfl, rfl, by decide +kernel⟩ ?hw ?hc
  case hw => w_witness2
  case hc =>
    refine LamX.walk_ofTsE (l := PySem.Challenge.rw_fillbehind_k55_what_sights_refuse) (n := 63) (k := 12) (x := "_law_script") (CX := fun _ => L2.CX0) rfl (by decide) (by kernel_rfl) ⟨rfl, by decide, by decide⟩ ?F (fun _ _ _ _ _ z => z)
    intro w mg fa h Y G hmg0
    obtain ⟨K, KX, c⟩ := Y
    have hmg : mg ("law" : PySem.Str) = some (.ref fa) := by
      have e : (HandSHeadRun.topDef (OpenLaw.row PySem.Challenge.rw_fillbehind_k55_what_sights_refuse).prog 111).name = ("law" : PySem.Str) := by kernel_rfl
      rw [← e]
      exact hmg0
    exact ⟨K, KX, K55.facts KX G hmg c⟩
