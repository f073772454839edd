import PyProof.Rows.All
import Wide.All
import OpenK.AllK
import Wide.FinOn
import HandS.ExcInit
import HandS.ExcIs
import HandS.ExcField
import HandS.MakeKw
import HandS.Words
import HandS.Defaults
import HandS.HeadHook2
import HandS.Head0
import HandS.Head1
import HandS.Head2
import HandS.HeadEnd
import HandS.ForMost
import HandS.Wide
import HandS.More
import HandS.ExcBuiltin
import HandS.ExcValue
import KE.KExcIs
import HandS.TryMany
import KE.KStateDown
import PySem.Challenge.RW_fillbehind_k05_exceptions
set_option Elab.async false
set_option linter.all false
set_option maxRecDepth 100000
set_option maxHeartbeats 4000000
/-! An own exception class over ValueError (at any depth), its object held as a value: made by place and by name. -/
namespace PySem.VX
open PySem PySem.Calls PyProof.Rows PySem.HandSPX
section
variable {M : Model} {A : Around} {E : Value → Shared → Prop} {h : Heap} {g : Array GenState} {d : Drawn} {t : Nat} {os : OsState}
variable {nm q : Str} {C N : Addr} {bs bm bmB : List Value} {hdct : Bool} {sn : List Str} {sub : List Value} {ab : Bool} {col : Option Bool} {dd : Option Addr} {k0 k1 k2 k3 k5 : Option Value} {B newId initId : String}

theorem look_new (F : ExcBaseFacts B newId initId bmB) (same : ∀ Y : String, bm.contains (.type Y) = bmB.contains (.type Y)) {ps : List Value} {kw : List (Str × Value)} {Q : Unit → Shared → Prop}
    (hC : h.get? C = some (excClassObj nm q C N bs bm hdct sn sub ab col dd k0 k1 k2 k3 k5 newId)) (go : Q () ⟨h, g, d, t, os⟩) :
    wpAny M A (checkBuiltinCall newId ⟨.ref C :: ps, kw⟩) Q E ⟨h, g, d, t, os⟩ := by
  have isB : (Value.ref C :: bm).contains (.type B) = true := by rw [List.contains_cons, same, F.hasB, Bool.or_true]
  have nost := F.noStar
  simp only [checkBuiltinCall, F.newKind, F.newSplit, F.newRow]
  repeat (first
    | refine wpAny_loadPart_at hC ?_
    | (refine wpAny_isSubtype_exc hC ?_; rw [isB])
    | refine wpAny_staticBase_exc hC ?_
    | refine wpAny_madeBy_exc hC ?_
    | simp only [bne_self_eq_false, Bool.false_eq_true, if_false]
    | wp_step)
  exact go
end

section
variable {prog : Program} {w : World} {A : Around} {E : Value → Shared → Prop} {R : Result → Shared → Prop} {h : Heap} {g : Array GenState} {d : Drawn} {t : Nat} {os : OsState}
variable {nm q : Str} {C N : Addr} {bs bm bmB : List Value} {hdct : Bool} {sn : List Str} {sub : List Value} {ab : Bool} {col : Option Bool} {dd : Option Addr} {k0 k1 k2 k3 k5 : Option Value} {B newId initId : String}
/-- the heap behind BaseException.__new__ -/
abbrev newH (h : Heap) (C : Addr) (ps : List Value) : Heap := (h.push (PySem.W.kdv_tup ps)).push (excO C h.objs.size)

theorem is_new (F : ExcBaseFacts B newId initId bmB) (same : ∀ Y : String, bm.contains (.type Y) = bmB.contains (.type Y)) {ps : List Value} {kw : List (Str × Value)}
    (hC : h.get? C = some (excClassObj nm q C N bs bm hdct sn sub ab col dd k0 k1 k2 k3 k5 newId)) (few : ps.length ≤ sizeLine)
    (go : R (.ok (.ret (.ref (h.objs.size + 1)))) ⟨newH h C ps, g, d, t, os⟩) :
    codeAny (model prog w) A (.builtin newId ⟨.ref C :: ps, kw⟩) R ⟨h, g, d, t, os⟩ := by
  have isB : (Value.ref C :: bm).contains (.type B) = true := by rw [List.contains_cons, same, F.hasB, Bool.or_true]
  have noA : (Value.ref C :: bm).contains (.type "AttributeError") = false := by rw [List.contains_cons, same, F.noAttr]; rfl
  have noN : (Value.ref C :: bm).contains (.type "NameError") = false := by rw [List.contains_cons, same, F.noName]; rfl
  have en := F.ends
  refine codeAny_builtinAt F.entry ?_
  unfold Builtin.«BaseException.__new__»
  refine wpAt_bind ?_
  show wpAt _ _ _ (stack >>= _) _ _ _
  refine wpAt_bind (wpAt_stack fun p under => wpAt_of_wpAny ?_)
  wp_walk
  refine wpAt_of_wpAny ?_
  rw [F.owner]
  repeat (first
    | with_reducible refine wpAny_madeHere_exc F.canon hC ?_
    | with_reducible refine wpAny_loadPart_at hC ?_
    | (with_reducible refine wpAny_isSubtype_exc hC ?_; first | rw [isB] | rw [noA] | rw [noN])
    | wp_step)
  show R _ _
  rw [Heap.size_push]
  exact go

theorem is_call (F : ExcBaseFacts B newId initId bmB) (same : ∀ Y : String, bm.contains (.type Y) = bmB.contains (.type Y)) {ps : List Value} {kw : List (Str × Value)} {fI : Addr} {Q : Fin → Shared → Prop}
    (hC : h.get? C = some (excClassObj nm q C N bs bm hdct sn sub ab col dd k0 k1 k2 k3 k5 newId)) (few : ps.length ≤ sizeLine)
    (ini : W.Looks (model prog w) h (typeLookup (.ref C) "__init__") (some (.ref fI))) (bnd : ∀ o, W.Looks (model prog w) h (bindSpecial (.ref fI) o) (.ref fI, [o]))
    (go : codeAny (model prog w) A (.call (.ref fI) ⟨.ref (h.objs.size + 1) :: ps, kw⟩)
      (fun r s' => match r with | .ok (.ret v) => v = .none ∧ Q (.done (.ret (.ref (h.objs.size + 1)))) s' | .ok _ => False | .error e => E e s') ⟨newH h C ps, g, d, t, os⟩) :
    wpAny (model prog w) A (Builtin.«type.__call__» ⟨.ref C :: ps, kw⟩) Q E ⟨h, g, d, t, os⟩ := by
  repeat (first
    | with_reducible refine wpAny_loadPart_at hC ?_
    | with_reducible refine wpAny_madeBy_exc hC ?_
    | wp_step)
  refine codeAny_call_builtin_code (Code.quiet_builtin _ F.quiet) (look_new F same hC ?_)
  refine is_new F same hC few ?_
  show wpAny _ _ _ _ _ _
  have keeps : ∀ b o, h.get? b = some o → (newH h C ps).get? b = some o := fun b o e => Heap.get?_push_of_some _ (Heap.get?_push_of_some _ e)
  have hC2 := keeps _ _ hC
  have at_e : (newH h C ps).get? (h.objs.size + 1) = some (excO C h.objs.size) := by heap_get
  have itself : (Value.ref C :: bm).contains (.ref C) = true := by simp
  have ini2 := ini.keeps keeps
  have bnd2 := (bnd (.ref (h.objs.size + 1))).keeps keeps
  unfold isInstance
  repeat (first
    | with_reducible refine wpAny_loadPart_at at_e ?_
    | (with_reducible refine wpAny_isSubtype_exc hC2 ?_; rw [itself])
    | wp_step)
  show wpAny _ _ (typeLookup (.ref C) _) _ _ _
  refine ini2.at ?_
  refine wpAny_holding (wpAny_bind (bnd2.at ?_))
  refine wpAny_bind (wpAny_call (codeAny_mono go fun r s' z => ?_))
  rcases r with e | (v | _ | _ | _) <;> first | exact z | exact z.elim | skip
  obtain ⟨rfl, z2⟩ := z
  first
    | exact wpAny_pure (wpAny_pure z2)
    | (wp_walk; exact z2)

theorem look_call {M : Model} {E : Value → Shared → Prop} {ps : List Value} {kw : List (Str × Value)} {Q : Unit → Shared → Prop} (hC : h.get? C = some (excClassObj nm q C N bs bm hdct sn sub ab col dd k0 k1 k2 k3 k5 newId)) (go : Q () ⟨h, g, d, t, os⟩) :
    wpAny M A (checkBuiltinCall "type.__call__" ⟨.ref C :: ps, kw⟩) Q E ⟨h, g, d, t, os⟩ := by
  have f := tc_sub
  have ty : (⟨h, g, d, t, os⟩ : Shared).TypeIs (.ref C) "type" := ⟨_, hC, rfl⟩
  simp only [checkBuiltinCall, tc_kind, tc_split]
  repeat (any_goals (first
    | assumption
    | with_reducible refine wpAny_loadPart_at hC ?_
    | with_reducible refine wpAny_onRaise ?_
    | with_reducible refine wpAny_map ?_
    | wp_step))

theorem call_it (F : ExcBaseFacts B newId initId bmB) (same : ∀ Y : String, bm.contains (.type Y) = bmB.contains (.type Y)) {ps : List Value} {kw : List (Str × Value)} {fI : Addr}
    (hC : h.get? C = some (excClassObj nm q C N bs bm hdct sn sub ab col dd k0 k1 k2 k3 k5 newId)) (few : ps.length ≤ sizeLine)
    (ini : W.Looks (model prog w) h (typeLookup (.ref C) "__init__") (some (.ref fI))) (bnd : ∀ o, W.Looks (model prog w) h (bindSpecial (.ref fI) o) (.ref fI, [o]))
    (go : codeAny (model prog w) (A.under (.builtin "type.__call__" ⟨.ref C :: ps, kw⟩)) (.call (.ref fI) ⟨.ref (h.objs.size + 1) :: ps, kw⟩) (W.InitBack (h.objs.size + 1) R) ⟨newH h C ps, g, d, t, os⟩) :
    codeAny (model prog w) A (.call (.ref C) ⟨ps, kw⟩) R ⟨h, g, d, t, os⟩ := by
  have f1 := tc_lookup
  have f2 := tc_bind (.ref C)
  have ty : (⟨h, g, d, t, os⟩ : Shared).TypeIs (.ref C) "type" := ⟨_, hC, rfl⟩
  refine codeAny_of_tree ?_
  show wpAny _ _ (callAny (.ref C) _) _ _ _
  repeat (any_goals (first
    | assumption
    | with_reducible refine wpAny_loadPart_at hC ?_
    | wp_step))
  refine ⟨rfl, ?_⟩
  refine codeAny_call_builtin_at (Code.quiet_builtin _ (by decide +kernel)) entry_typeCall (look_call hC (is_call F same hC few ini bnd ?_))
  refine codeAny_mono go fun r s' z => ?_
  rcases r with e | (v | _ | _ | _) <;> exact z
end
end PySem.VX

set_option maxRecDepth 100000
set_option maxHeartbeats 4000000
/-! isinstance of an own exception's object that has a dict, or none. -/
namespace PySem.W
open PySem PySem.Spec PySem.Calls PyProof.Rows
section
variable {prog : Program} {w : World} {A : Around} {E : Value → Shared → Prop} {s : Shared} {K : Frag} {x D : Addr} {ox : Obj} {od : Option Obj}
theorem vx_bound {C : Addr} {y : Str} {v gg : Value} (is : (clsIn K C).isSome = true) (f : findIn K (.ref C) y = some (some v)) (gt : specialIn K v "__get__" = some (some gg)) (tk : takesIn K v = some true) :
    findObj K C od y = some (.bind gg v) := by
  obtain ⟨cd, e⟩ := Option.isSome_iff_exists.mp is
  unfold findObj
  rw [e, Option.bind_some, f, Option.bind_some]
  simp [gt, tk]
theorem vx_class {Q : Option Value → Shared → Prop} (C : L2.ExcC K D) (X : K.In s.heap) (I : InstAt s.heap x ox D od) (go : Q (some (.ref D)) { s with toks := s.toks + 1 }) :
    wpAny (model prog w) A (getAttr? (.ref x) "__class__") Q E s := by
  have is : (clsIn K D).isSome = true := by
    obtain ⟨cd, hc, _⟩ := any_some C.hd
    rw [hc]; rfl
  have fo : findObj K D od "__class__" = some (.bind (.builtin "getset_descriptor.__get__") (.builtin "object.__class__")) := vx_bound is C.ha C.hn C.ht
  obtain ⟨hh, gs, dr, tk, os⟩ := s
  have T0 := I.type (M := model prog w)
  have T1 := looks_findIn (M := model prog w) X C.hg
  have T2 := looks_findIn (M := model prog w) X C.hk
  have T3 := looks_find (M := model prog w) X I fo
  have sub : Looks (model prog w) hh (isInstance (.ref x) (.type "BaseException")) true := T0.andThen (looks_subIn X C.hs)
  have n0 : (false && onTheHeap (Value.builtin "BaseException.__getattribute__")) = false := rfl
  have n2 : (Value.builtin "BaseException.__getattribute__" == Value.builtin "object.__getattribute__") = false := by decide +kernel
  have n1 : (onTheHeap (Value.ref D) && Value.builtin "BaseException.__getattribute__" == Value.builtin "object.__getattribute__") = false := by
    rw [n2]; rfl
  unfold getAttr? getAttrBy? getAttrBy
  refine wpAny_bind (wpAny_mkText (wpAny_bind (wpAny_attempt (wpAny_holding (wpAny_bind (T0.at (wpAny_bind (T1.at ?_))))))))
  show wpAny _ _ (if (onTheHeap (Value.ref D) && Value.builtin "BaseException.__getattribute__" == Value.builtin "object.__getattribute__") = true
    then _ else _) _ _ _
  rw [n1, if_neg Bool.false_ne_true]
  unfold getAttrByItsOwn hookBefore
  refine wpAny_bind ?_
  rw [if_pos (show onTheHeap (Value.ref D) = true from
    rfl)]
  refine T2.at ?_
  refine wpAny_bind (wpAny_attempt (wpAny_holding ?_))
  unfold callGetattribute
  rw [n0, if_neg Bool.false_ne_true]
  unfold boundAndCalled
  rw [PySem.F.excAttr_ValueError.ga.bind (Value.ref x)]
  refine wpAny_bind (wpAny_pure ?_)
  show wpAny _ _ (call (.builtin "BaseException.__getattribute__") [.ref x, .str "__class__" tk]) _ _ _
  refine wpAny_call (codeAny_call_builtin (PySem.F.excAttr_ValueError.ga.plain) PySem.F.entry_bexc_ga ?_)
  refine @check_slot (model prog w) _ _ ⟨hh, gs, dr, tk + 1, os⟩ "BaseException.__getattribute__" "BaseException" "__getattribute__" (.ref x) [.str "__class__" tk] [] _
    (by decide +kernel) (by decide +kernel) sub (PySem.F.args_bexc_ga (.ref x) (.str "__class__" tk)) ?_
  unfold Builtin.«object.__getattribute__»
  refine wpAny_bind (wpAny_of_eq (a := ((Value.ref x : Value), [Value.str "__class__" tk])) (by
    first | rfl | (simp only [slotArgs]; rfl)) ?_)
  refine wpAny_bind (wpAny_pure (wpAny_bind (T0.at (wpAny_bind (T3.at ?_)))))
  show wpAny _ _ (holding [Value.builtin "object.__class__"] (call (.builtin "getset_descriptor.__get__")
    [.builtin "object.__class__", .ref x, .ref D]) >>= ret) _ _ _
  refine wpAny_bind (wpAny_holding (wpAny_call (class_get (s := ⟨hh, gs, dr, tk + 1, os⟩) (ox := ox) (od := od) X I C.hm ?_)))
  refine wpAny_pure ?_
  show wpAny _ _ (handedOut (.ref D)) _ _ _
  rw [handedOut_of (v := Value.ref D) rfl]
  first
    | exact wpAny_pure (wpAny_pure go)
    | exact wpAny_pure go
theorem vx_kit (C : L2.ExcC K D) : KitX K (.ref x) (.ref D) (fun h => ∃ ox od, InstAt h x ox D od) where
  ty := fun _ _ _ ⟨_, _, I⟩ => I.type
  it := fun _ _ X _ => by
    obtain ⟨cd, hc, _⟩ := any_some C.hd
    unfold clsIn at hc
    split at hc
    · rename_i ho
      intro A' Q' E' s' k q
      unfold isType loadHead
      exact wpAny_bind (wpAny_loadPart (k _ _ (X _ _ ho))
        (wpAny_pure q))
    · cases hc
  ne := fun h tp dd its n sl X htp => by
    obtain ⟨cd, hc, _⟩ := any_some C.hd
    refine Bool.eq_false_iff.mpr fun same => ?_
    have e : D = tp := Value.ref.inj (beq_iff_eq.mp same)
    subst e
    unfold clsIn at hc
    split at hc
    · rename_i ho
      have z := (X _ _ ho).symm.trans htp
      cases z
    · cases hc
  ca := fun X ⟨_, _, I⟩ k => vx_class C X I k
end
end PySem.W

set_option maxRecDepth 100000
set_option maxHeartbeats 4000000
/-! An own exception's object as a value, over the layer: made, its fields read, asked for its class. -/
namespace L2
open PySem PySem.Spec PyProof.Rows

/-- at a: an exception of the class at C, these its fields -/
def IsEx (H : Hp) (a C : Addr) (fs : List (Str × V)) : Prop := (fs = [] ∧ H a = some (exo a C none)) ∨ ∃ dx, H a = some (exo a C (some dx)) ∧ H dx = some (exd dx fs)
theorem IsEx.same {H H' : Hp} {a C : Addr} {fs : List (Str × V)} (h : IsEx H a C fs) (e : Same H H') : IsEx H' a C fs := by
  rcases h with ⟨h1, h2⟩ | ⟨dx, h1, h2⟩
  · exact .inl ⟨h1, e _ _ h2⟩
  · exact .inr ⟨dx, e _ _ h1, e _ _ h2⟩
section
variable {X : Cx} {pins : List (Addr × Obj)} {σ : St} {H : Hp} {s : Shared} {a C : Addr} {fs : List (Str × V)}
theorem IsEx.inst (h : IsEx H a C fs) (I : Inv X pins σ H s) : ∃ ox od, PySem.W.InstAt s.heap a ox C od ∧ ∀ f v, fs.lookup f = some v → ∃ u o, od = some o ∧ PySem.W.lookIn f o = some (some u) ∧ RelV v u := by
  rcases h with ⟨rfl, h⟩ | ⟨dx, h, hd⟩
  · obtain ⟨t, e⟩ := exo_at I.hok h
    exact ⟨_, none, ⟨e, rfl, rfl, trivial⟩, fun f v z => by cases z⟩
  · obtain ⟨t, e⟩ := exo_at I.hok h
    obtain ⟨mA, ns, rel⟩ := exd_at I.hok hd
    obtain ⟨od, eo, lk⟩ := lookIn_ns ns
    refine ⟨_, some od, ⟨e, rfl, rfl, eo⟩, fun f v z => ?_⟩
    obtain ⟨u, eu, ru⟩ := RelO.some_of (v := v) (o := mA f) (by rw [← z]; exact rel f)
    exact ⟨u, od, rfl, by rw [lk, eu], ru⟩
/-- e.f -/
def tExF (K : PySem.W.Frag) (f : Str) (te : TE) : TE := fun σ H Q => te σ H fun x H1 => ∃ (a C : Addr) (fs : List (Str × V)) (v : V), x = .ref a ∧ XfC K C ∧ PySem.W.findIn K (.ref C) f = some none ∧ IsEx H1 a C fs ∧ fs.lookup f = some v ∧ Q v H1
theorem pe_exF {e : Expr} {te : TE} {pos : Pos} {f : Str} (he : PE X e te) (hb : attributeBase e f X.env (eval e X.env) = eval e X.env := by rfl) : PE X (.Attribute e f pos) (tExF X.K f te) := by
  refine ⟨fun pins s σ H Q I h => ?_⟩
  refine attr_of hb (thn (he.run pins s σ H _ I h) fun u s1 hh => ?_)
  obtain ⟨x, H1, I1, rx, a, C, fs, v, ex, T, no, is, l, q⟩ := hh
  subst ex
  obtain rfl : u = Value.ref a := rx
  obtain ⟨ox, od, J, look⟩ := is.inst I1
  obtain ⟨w', o, rfl, lo, rw'⟩ := look f v l
  exact HandSPX.exc_get I1.kIn J T.ga T.gg T.exC (PySem.W.findObj_own T.hdC no rfl lo) (handed_of rw') ⟨v, H1, I1.tok _, rw', q⟩
/-- isinstance(e, c) -/
def rIsX (K : PySem.W.Frag) : List V → Hp → VK → Prop := fun xs H Q => ∃ (a D : Addr) (fs : List (Str × V)) (c : V) (cv : Value) (b : Bool), xs = [.ref a, c] ∧ IsEx H a D fs ∧ ExcC K D ∧ (∀ u, RelV c u → u = cv) ∧ PySem.W.kitOne K (.ref D) cv = some b ∧ Q (.bl b) H
theorem call_isX : CallR X (.builtin "isinstance") (rIsX X.K) := by
  intro pins s σ H xs us Q I r h
  obtain ⟨a, D, fs, c, cv, b, rfl, is, C, hcv, e, q⟩ := h
  obtain ⟨u, v, rfl, ru, rv⟩ := vals2 r
  obtain rfl : u = Value.ref a := ru
  obtain rfl := hcv _ rv
  obtain ⟨ox, od, J, _⟩ := is.inst I
  exact PySem.W.kia_one (PySem.W.vx_kit C) I.kIn ⟨ox, od, J⟩ e (fun z => nomatch z) fun tk => ⟨.bl b, H, I.kept (t' := tk) fun _ _ z => z, rfl, q⟩

/-! ### made: C(e, .., k = v, ..), its own __init__ -/
def tMkX (C : Addr) (n m : Nat) (sp : Sp) (gV : List V → List V → List V) (E : XK) (t tk : TA) : TE := fun σ H Q => t σ H fun vs H1 => tk σ H1 fun zs H2 => vs.length = n ∧ zs.length = m ∧
  ∀ a, H2 a = none → sp (gV (.ref a :: vs) zs) (upd H2 a (exo a C none)) (fun v H3 => v = .non ∧ Q (.ref a) H3) E
/-- what the written part says of such a class -/
structure MkXC (K : PySem.W.Frag) (C fI : Addr) : Prop extends OexC K C where
  ini : PySem.W.findIn K (.ref C) "__init__" = some (some (.ref fI))
  tyI : PySem.W.typeIn K (.ref fI) = some (.type "function")
variable {CX : CXT} {k n : Nat} {fI : Addr} {fd : FuncData} {ps ks : List Str} {sp : Sp} {E : XK} {x : Str} {p pos : Pos} {e : Expr} {es : List Expr} {kws : List Keyword} {t tk : TA} {g : List Value → List Value → List Value} {gV : List V → List V → List V} {Q : VK} {us ws : List Value} {vs zs : List V}
theorem run_mkX (T : MkXC X.K C fI) (F : FnOk X.prog X.w X.K X.mg X.base CX k fI fd ps sp) (hr : Room (k + 1) X.A) (hb : KBn X.K fd ps (n + 1) ks g gV) (hx : Passes CX X E) (few : n ≤ 1000)
    (I : Inv X pins σ H s) (r : Vals vs us) (rz : Vals zs ws) (l1 : vs.length = n) (l2 : zs.length = ks.length)
    (h : ∀ a, H a = none → sp (gV (.ref a :: vs) zs) (upd H a (exo a C none)) (fun v H3 => v = .non ∧ Q (.ref a) H3) E) :
    wpAny (model X.prog X.w) X.A (call (.ref C) us (ks.zip ws)) (EP X pins σ Q) X.xe s := by
  obtain ⟨nm, q, N, bs, bm, sn, sub, ab, col, dd, k0, k1, k2, k3, k5, hC, hbm⟩ := T.cls
  obtain ⟨hp, gs, dr, tk, os⟩ := s
  have up : hp.objs.size ≤ hp.objs.size + 1 := Nat.le_succ _
  have hq := h (hp.objs.size + 1) (I.hok.fresh up)
  have len : us.length ≤ sizeLine := by
    rw [← Paired.length r, l1, sizeLine_eq]
    omega
  have keeps : ∀ b o, hp.get? b = some o → (PySem.VX.newH hp C us).get? b = some o := fun b o z => Heap.get?_push_of_some _ (Heap.get?_push_of_some _ z)
  have at_a : (PySem.VX.newH hp C us).get? (hp.objs.size + 1) = some (PySem.HandSPX.excO C hp.objs.size) := by heap_get
  have J : Inv X pins σ (upd H (hp.objs.size + 1) (exo (hp.objs.size + 1) C none)) ⟨PySem.VX.newH hp C us, gs, dr, tk, os⟩ :=
    I.laid (t' := tk) (a := hp.objs.size + 1) (o := exo (hp.objs.size + 1) C none) (h' := PySem.VX.newH hp C us) keeps up (exo_ok at_a)
  have r1 : Vals (V.ref (hp.objs.size + 1) :: vs) (Value.ref (hp.objs.size + 1) :: us) := .cons rfl r
  have r2 := hb.rel r1 rz
  have m1 : (Value.ref (hp.objs.size + 1) :: us).length = n + 1 := r1.length.symm.trans (congrArg Nat.succ l1)
  have m2 : ws.length = ks.length := rz.length.symm.trans l2
  refine wpAny_call (PySem.VX.call_it PySem.F.excBase_ValueError (fun Y => PySem.HandSPX.refsVE_contains Y bm hbm) (I.kIn _ _ hC) len (PySem.W.looks_findIn I.kIn T.ini) (fun o => PySem.W.bind_fn I.kIn o T.tyI)
    (codeAny_mono (F.run _ X.stack _ _ ⟨Value.ref (hp.objs.size + 1) :: us, ks.zip ws⟩ (g (Value.ref (hp.objs.size + 1) :: us) ws) _ _ E (hr.make C us (ks.zip ws)) (J.env0.make C us (ks.zip ws))
      (hb.to _ (Value.ref (hp.objs.size + 1) :: us) ws J.kIn m1 m2) r2 hq) fun r s' hq' => ?_))
  cases r with
  | error er => exact hx pins σ _ _ er s' J hq'
  | ok fl =>
    cases fl with
    | ret u =>
      obtain ⟨v, H', J2, rv, ev, q3⟩ := J.after hq'
      subst ev
      exact ⟨rv, ⟨V.ref (hp.objs.size + 1), H', J2, rfl, q3⟩⟩
    | next => exact hq'.elim
    | brk => exact hq'.elim
    | cont => exact hq'.elim
/-- C(e, ..) -/
theorem pe_mkX (T : MkXC X.K C fI) (F : FnOk X.prog X.w X.K X.mg X.base CX k fI fd ps sp) (hr : Room (k + 1) X.A) (hg : Gl X x) (hm : X.mg x = some (.ref C)) (hb : KBn X.K fd ps (n + 1) [] g gV) (few : n ≤ 1000) (hx : Passes CX X E)
    (ha : PA X (e :: es) t) (hdb : (x == ("__debug__" : Str)) = false := by decide) (he : starEach (e :: es) X.env = (false, eval e X.env) :: starEach es X.env := by rfl) (hpl : (backTo pos (starEach es X.env)).any (·.1) = false := by rfl) :
    PE X (.Call (.Name x p) (e :: es) [] pos) (tMkX C n 0 sp gV E t tNil) := by
  refine ⟨fun pins s σ H Q I h => ?_⟩
  refine wpAny_Call_Name_kw (ld_glob I hg hm ?_ hdb)
  refine PySem.W.callWith_K (h₀ := X.base) I.ok.mod.kin T.kC (thn (ha.run pos pins s σ H _ I h) fun us s1 hh => ?_) he hpl
  obtain ⟨vs, H1, I1, r, l1, l2, q⟩ := hh
  exact ⟨I1.kIn, run_mkX (ks := []) (zs := []) (ws := []) T F hr hb hx few I1 r .nil l1 rfl q⟩
/-- C() -/
theorem pe_mkX0 (T : MkXC X.K C fI) (F : FnOk X.prog X.w X.K X.mg X.base CX k fI fd ps sp) (hr : Room (k + 1) X.A) (hg : Gl X x) (hm : X.mg x = some (.ref C)) (hb : KBn X.K fd ps 1 [] g gV) (hx : Passes CX X E) (hdb : (x == ("__debug__" : Str)) = false := by decide) :
    PE X (.Call (.Name x p) [] [] pos) (tMkX C 0 0 sp gV E tNil tNil) := by
  refine ⟨fun pins s σ H Q I h => ?_⟩
  refine wpAny_Call_Name_kw (ld_glob I hg hm ?_ hdb)
  obtain ⟨l1, l2, q⟩ := h
  exact PySem.W.callWith_K0 I.kIn T.kC (run_mkX (n := 0) (ks := []) (us := []) (vs := []) (zs := []) (ws := []) T F hr hb hx (by decide) I .nil .nil rfl rfl q)
/-- C(k = v, ..) -/
theorem pe_mkXK (T : MkXC X.K C fI) (F : FnOk X.prog X.w X.K X.mg X.base CX k fI fd ps sp) (hr : Room (k + 1) X.A) (hg : Gl X x) (hm : X.mg x = some (.ref C)) (hb : KBn X.K fd ps 1 ks g gV) (hx : Passes CX X E)
    (hkw : PK X kws tk) (hall : (backToKw pos (keywordEach kws X.env)).all (·.1.isSome) = true := by rfl) (hks : (backToKw pos (keywordEach kws X.env)).filterMap (·.1) = ks := by rfl) (hdb : (x == ("__debug__" : Str)) = false := by decide)
    (hpl : ((backTo pos (starEach [] X.env)).any (·.1) || (backToKw pos (keywordEach kws X.env)).any (·.1.isNone)) = false := by rfl) :
    PE X (.Call (.Name x p) [] kws pos) (tMkX C 0 ks.length sp gV E tNil tk) := by
  refine ⟨fun pins s σ H Q I h => ?_⟩
  refine wpAny_Call_Name_kw (ld_glob I hg hm ?_ hdb)
  refine PySem.W.callWith_KW0 (h₀ := X.base) I.ok.mod.kin T.kC hall (thn (hkw.run pos pins s σ H _ I h) fun ws s2 hh => ?_) hpl
  obtain ⟨zs, H2, I2, rz, l1, l2, q2⟩ := hh
  refine ⟨I2.kIn, ?_⟩
  rw [hks]
  exact run_mkX (n := 0) (us := []) (vs := []) T F hr hb hx (by decide) I2 .nil rz rfl l2 q2
end
end L2

set_option maxRecDepth 100000
set_option maxHeartbeats 4000000
/-! The head's facts with one more Bool; own exception classes in it. -/
namespace VH
open PySem PySem.Spec PyProof.Rows L2 He
/-! ### the Hook -/
abbrev AlV : Type := AlD × Bool
def obsV (fa : List Fa) (fn : List DefD) (ex : PySem.W.Frag → Bool) (K : PySem.W.Frag) : AlV := (obsD fa fn K, ex K)
def obsVG (n : Nat) (fa : List Fa) (fn : List DefD) (ex : PySem.W.Frag → Bool) (g : Addr → Option Obj) : AlV := obsV fa fn ex (frG g (asD g n))
def SaysV (fa : List Fa) (fn : List DefD) (ex : PySem.W.Frag → Bool) (K : PySem.W.Frag) : Prop := SaysD fa fn K ∧ ex K = true
def hookV (n : Nat) (fa : List Fa) (fn : List DefD) (ex : PySem.W.Frag → Bool) : PySem.W.Hook where
  α := AlV
  obs := fun s => obsVG n fa fn ex s.heap.get?
  val := fun _ => (valD fn, true)
  says := fun _ h => ∃ K : PySem.W.Frag, K.In h ∧ SaysV fa fn ex K
  of := fun _ _ e => ⟨_, frG_in, congrArg (fun z : AlV => z.1) e, congrArg (fun z : AlV => z.2) e⟩
  keeps := fun _ _ _ ⟨K, hK, c⟩ k => ⟨K, PySem.W.Frag.In.keeps hK k, c⟩
theorem obsVG_eq {n : Nat} {fa : List Fa} {fn : List DefD} {ex : PySem.W.Frag → Bool} {g : Addr → Option Obj} {s : Shared} (h : ∀ a, g a = s.heap.get? a) : obsVG n fa fn ex g = (hookV n fa fn ex).obs s := by
  have e : g = s.heap.get? := funext h
  rw [e]; rfl
/-! ### an own exception class -/
/-- the class at C is over ValueError, perhaps over own ones between -/
def exB (K : PySem.W.Frag) (C : Addr) : Bool := match K.lookup C with
  | some ⟨.type t, _, .cls cd, sl⟩ => decide (t = "type") && (match cd.mro, sl.toList with
    | .ref D :: bm, [_, _, _, _, some (.builtin n), _] => decide (D = C) && (decide (n = "ValueError.__new__") && (!cd.hasDel && (cd.hasDict && PySem.HandSPX.refsVE bm)))
    | _, _ => false)
  | _ => false
theorem exB_ok {K : PySem.W.Frag} {C : Addr} (h : exB K C = true) : ∃ nm q N bs bm sn sub ab col dd k0 k1 k2 k3 k5, K.lookup C = some (excClassObj nm q C N bs bm true sn sub ab col dd k0 k1 k2 k3 k5 "ValueError.__new__") ∧ PySem.HandSPX.refsVE bm = true := by
  unfold exB at h
  split at h
  · rename_i t dd cd sl ho
    obtain ⟨y0, z0⟩ := ba h
    clear h
    have e0 : t = "type" := of_decide_eq_true y0
    split at z0
    · rename_i D bm k0 k1 k2 k3 n k5 hm hs
      obtain ⟨y1, z1⟩ := ba z0
      obtain ⟨y2, z2⟩ := ba z1
      obtain ⟨y3, z3⟩ := ba z2
      obtain ⟨y4, y5⟩ := ba z3
      have e1 : D = C := of_decide_eq_true y1
      have e2 : n = "ValueError.__new__" := of_decide_eq_true y2
      clear z0 z1 z2 z3 y0 y1 y2
      subst e0 e1 e2
      obtain ⟨nm, bs, mro, ns, qn, hd, sn, sub, ab, col, del⟩ := cd
      dsimp only at hm y3 y4
      subst hm y4
      have e3 : del = false := by
        cases del with
        | false => rfl
        | true => cases y3
      subst e3
      have e4 : sl = #[k0, k1, k2, k3, some (.builtin "ValueError.__new__"), k5] := by
        obtain ⟨l⟩ := sl
        simp only at hs
        rw [hs]
      subst e4
      exact ⟨nm, qn, ns, bs, bm, sn, sub, ab, col, dd, k0, k1, k2, k3, k5, ho, y5⟩
    · cases z0
  · cases h
def okO {α : Type} [DecidableEq α] (a b : Option α) : Bool := decide (a = b)
/-- all that an own exception class, with an __init__ of its own, must say; its fields' names -/
def clB (K : PySem.W.Frag) (x : Str) (fs : List Str) : Bool :=
  decide (PySem.W.nsIn K mainGlobals x = some (some (.ref (ga K x)))) && (exB K (ga K x) && (
  decide (PySem.W.findIn K (.ref (ga K x)) "__setattr__" = some (some (.builtin "object.__setattr__"))) && (
  decide (PySem.W.subIn K (.ref (ga K x)) (.type "BaseException") = some true) && (
  decide (PySem.W.typeIn K (.ref (ga K x)) = some (.type "type")) && (
  PySem.W.keepIn K (.ref (ga K x)) && (
  decide (PySem.W.findIn K (.ref (ga K x)) "__init__" = some (some (.ref (ma K (ga K x) "__init__")))) && (
  decide (PySem.W.typeIn K (.ref (ma K (ga K x) "__init__")) = some (.type "function")) && (
  decide (PySem.W.findIn K (.ref (ga K x)) "__getattribute__" = some (some (.builtin "BaseException.__getattribute__"))) && (
  decide (PySem.W.findIn K (.ref (ga K x)) "__getattr__" = some none) && (
  PySem.W.hasDictIn K (ga K x) && (
  decide (PySem.W.findIn K (.ref (ga K x)) "__class__" = some (some (.builtin "object.__class__"))) && (
  decide (PySem.W.mroIn K (ga K x) (.type "object") = some true) && (
  fs.all fun f => decide (PySem.W.findIn K (.ref (ga K x)) f = some none))))))))))))))
structure ClOk (K : PySem.W.Frag) (x : Str) (fs : List Str) : Prop where
  gl : PySem.W.nsIn K mainGlobals x = some (some (.ref (ga K x)))
  mkx : MkXC K (ga K x) (ma K (ga K x) "__init__")
  xf : XfC K (ga K x)
  ec : PySem.W.specialIn K (.builtin "object.__class__") "__get__" = some (some (.builtin "getset_descriptor.__get__")) → PySem.W.takesIn K (.builtin "object.__class__") = some true → ExcC K (ga K x)
  no : ∀ f ∈ fs, PySem.W.findIn K (.ref (ga K x)) f = some none
theorem clB_ok {K : PySem.W.Frag} {x : Str} {fs : List Str} (h : clB K x fs = true) : ClOk K x fs := by
  unfold clB at h
  obtain ⟨g0, h⟩ := ba h
  obtain ⟨g1, h⟩ := ba h
  obtain ⟨g2, h⟩ := ba h
  obtain ⟨g3, h⟩ := ba h
  obtain ⟨g4, h⟩ := ba h
  obtain ⟨g5, h⟩ := ba h
  obtain ⟨g6, h⟩ := ba h
  obtain ⟨g7, h⟩ := ba h
  obtain ⟨g8, h⟩ := ba h
  obtain ⟨g9, h⟩ := ba h
  obtain ⟨g10, h⟩ := ba h
  obtain ⟨g11, h⟩ := ba h
  obtain ⟨g12, h⟩ := ba h
  have d := fun {p : Prop} [Decidable p] (z : decide p = true) => of_decide_eq_true z
  exact ⟨of_decide_eq_true g0, ⟨⟨exB_ok g1, of_decide_eq_true g2, of_decide_eq_true g3, of_decide_eq_true g4, g5⟩, of_decide_eq_true g6, of_decide_eq_true g7⟩,
    ⟨of_decide_eq_true g8, of_decide_eq_true g9, of_decide_eq_true g3, g10⟩,
    fun a b => ⟨of_decide_eq_true g8, of_decide_eq_true g9, of_decide_eq_true g3, g10, of_decide_eq_true g11, a, b, of_decide_eq_true g12⟩,
    fun f hf => of_decide_eq_true (List.all_eq_true.mp h f hf)⟩
/-- what asks the descriptor __class__ -/
def dcB (K : PySem.W.Frag) : Bool := decide (PySem.W.specialIn K (.builtin "object.__class__") "__get__" = some (some (.builtin "getset_descriptor.__get__"))) && decide (PySem.W.takesIn K (.builtin "object.__class__") = some true)
end VH

set_option maxRecDepth 100000
set_option maxHeartbeats 4000000
/-! What every law's draws are made of: a list of three ints. -/
namespace L2
open PySem PySem.Spec PyProof.Rows
/-- two lists that are read, wherever they stand -/
def rCatR (K : PySem.W.Frag) : R2 := fun x y H Q => ∃ l b xs zs, x = .ref l ∧ y = .ref b ∧ SqL K H l xs ∧ SqL K H b zs ∧ xs.length + zs.length ≤ sizeLine ∧ ∀ p, H p = none → Q (.ref p) (upd H p (.lst (xs ++ zs)))
theorem op_catR {X : Cx} : OpR X (binaryOp .Add) (rCatR X.K) := by
  intro pins s σ H x y v u Q I rx ry h
  obtain ⟨l, b, xs, zs, rfl, rfl, a1, a2, few, q⟩ := h
  cases rx
  cases ry
  obtain ⟨i1, r1, ⟨⟨c1, d1, t1, s1⟩, n1, g1, p1, _, q1⟩, _⟩ := I.list a1
  obtain ⟨i2, r2, ⟨⟨c2, d2, t2, s2⟩, n2, g2, p2, _, q2⟩, _⟩ := I.list a2
  simp only at p1 q1 p2 q2
  subst p1 q1 p2 q2
  have ea : i1.toArray ++ i2.toArray = (i1 ++ i2).toArray := by simp
  refine PySem.concat_meets ⟨_, g1, rfl⟩ ⟨_, g2, rfl⟩ noFill_list_add seq_list_add PySem.F.slot_list_add PySem.F.entry_list_add (PySem.F.args_list_add_2 _ _)
    (list_addW l b i1.toArray i2.toArray n1 n2 d1 d2 s1 s2 (by rw [List.size_toArray, List.size_toArray, ← r1.length, ← r2.length]; omega)) ⟨g1, g2, ?_⟩
  rw [ea]
  exact ⟨.ref _, _, I.lnew (t' := s.toks) (r1.append r2) (by rw [List.length_append]; omega), rfl, q _ I.fresh⟩
/-- at a: a well -/
def Well (H : Hp) (a : Addr) : Prop := ∃ c b n : Int, H a = some (.lst [.int c, .int b, .int n])
/-- all but a is as it was -/
def But (a : Addr) (H H' : Hp) : Prop := ∀ b o, b ≠ a → H b = some o → H' b = some o
theorem But.same {a : Addr} {H H1 H' : Hp} (s : Same H H1) (h : But a H1 H') : But a H H' := fun b o n e => h b o n (s b o e)
theorem But.trans {a : Addr} {H H1 H' : Hp} (s : But a H H1) (h : But a H1 H') : But a H H' := fun b o n e => h b o n (s b o n e)
theorem But.upd {a : Addr} {H : Hp} {o : HO} : But a H (upd H a o) := fun b u n e => by rw [upd_ne n]; exact e
theorem But.of {a : Addr} {H H' : Hp} (s : Same H H') : But a H H' := fun b u _ e => s b u e
/-- the draw: an int below much -/
def spDraw : Sp := fun vs H Q _ => ∃ (a : Addr) (m : Int), vs = [.ref a, .int m] ∧ Well H a ∧ 0 < m ∧ m < 1073741824 ∧ ∀ (H' : Hp) (d : Int), 0 ≤ d → d < m → Well H' a → But a H H' → Q (.int d) H'
/-- the well of a number -/
def spWell (K : PySem.W.Frag) : Sp := fun vs H Q _ => ∃ (a : Addr) (ns : List Int) (k : Nat), vs = [.ref a, .int k] ∧ SqL K H a (ns.map V.int) ∧ ns.length ≤ 63 ∧ k ≤ 63 ∧ ∀ (H' : Hp) (p : Addr), H p = none → Well H' p → Same H H' → Q (.ref p) H'
/-- one of a list's items -/
def spOne (K : PySem.W.Frag) : Sp := fun vs H Q _ => ∃ (a l : Addr) (xs : List V), vs = [.ref a, .ref l] ∧ Well H a ∧ l ≠ a ∧ H l = some (.lst xs) ∧ 0 < xs.length ∧ xs.length < 1073741824 ∧ ∀ (H' : Hp) (x : V), x ∈ xs → Well H' a → But a H H' → Q x H'
theorem Same.new {H : Hp} {l : Addr} {o : HO} (n : H l = none) : Same H (upd H l o) := fun b u e => by
  rw [upd_ne (ne_of_none e n)]
  exact e
theorem Same.rd {H H' : Hp} {a : Addr} {u : HO} (e : Same H H') (r : Rd H a u) : Rd H' a u := by
  rcases r with r | ⟨o, r⟩
  · exact .inl (e _ _ r)
  · exact .inr ⟨o, e _ _ r⟩
theorem atI_some {α : Type} {xs : List α} {d : Int} (h0 : 0 ≤ d) (h1 : d < xs.length) : ∃ x, x ∈ xs ∧ atI xs d = some x := by
  obtain ⟨j, rfl⟩ : ∃ j : Nat, d = (j : Int) := ⟨d.toNat, by omega⟩
  have lt : j < xs.length := by omega
  exact ⟨xs[j], List.getElem_mem lt, atI_nat (List.getElem?_eq_getElem lt)⟩
end L2

set_option maxRecDepth 100000
set_option maxHeartbeats 4000000
/-! The promise of an own exception's __init__ that keeps its arguments as fields; making one. -/
namespace L2
open PySem PySem.Spec PyProof.Rows He
/-- .. new: its dict was not there in H -/
def IsExN (H H' : Hp) (a C : Addr) (fs : List (Str × V)) : Prop := (fs = [] ∧ H' a = some (exo a C none)) ∨ ∃ dx, H dx = none ∧ H' a = some (exo a C (some dx)) ∧ H' dx = some (exd dx fs)
theorem IsExN.is {H H' : Hp} {a C : Addr} {fs : List (Str × V)} (h : IsExN H H' a C fs) : IsEx H' a C fs := by
  rcases h with h | ⟨dx, _, h⟩
  · exact .inl h
  · exact .inr ⟨dx, h⟩
def spIni (K : PySem.W.Frag) (names : List Str) : Sp := fun vs H Q _ => ∃ (a C : Addr) (ws : List V), vs = .ref a :: ws ∧ ws.length = names.length ∧ OexC K C ∧ (∀ f ∈ names, PySem.W.findIn K (.ref C) f = some none) ∧
  H a = some (exo a C none) ∧ ∀ H', But a H H' → IsExN H H' a C (names.zip ws).reverse → Q .non H'
theorem ini1 {K : PySem.W.Frag} {f : Str} {vs : List V} {H : Hp} {Q : VK} {E : XK} (h : spIni K [f] vs H Q E) : ∃ (a C : Addr) (v : V), vs = [.ref a, v] ∧ OexC K C ∧ PySem.W.findIn K (.ref C) f = some none ∧ H a = some (exo a C none) ∧
    ∀ dx, H dx = none → dx ≠ a → Q .non (upd (upd H dx (exd dx [(f, v)])) a (exo a C (some dx))) := by
  obtain ⟨a, C, ws, rfl, l, T, no, ha, k⟩ := h
  match ws, l with
  | [v], _ =>
    refine ⟨a, C, v, rfl, T, no f (by simp), ha, fun dx n ne => k _ (fun b o hb e => ?_) (.inr ⟨dx, n, upd_same, ?_⟩)⟩
    · rw [upd_ne hb, upd_ne (ne_of_none e n)]
      exact e
    · rw [upd_ne ne]
      exact upd_same
theorem ini2 {K : PySem.W.Frag} {f g : Str} {vs : List V} {H : Hp} {Q : VK} {E : XK} (h : spIni K [f, g] vs H Q E) : ∃ (a C : Addr) (v u : V), vs = [.ref a, v, u] ∧ OexC K C ∧ PySem.W.findIn K (.ref C) f = some none ∧ PySem.W.findIn K (.ref C) g = some none ∧ H a = some (exo a C none) ∧
    ∀ dx, H dx = none → dx ≠ a → Q .non (upd (upd (upd H dx (exd dx [(f, v)])) a (exo a C (some dx))) dx (exd dx [(g, u), (f, v)])) := by
  obtain ⟨a, C, ws, rfl, l, T, no, ha, k⟩ := h
  match ws, l with
  | [v, u], _ =>
    refine ⟨a, C, v, u, rfl, T, no f (by simp), no g (by simp), ha, fun dx n ne => k _ (fun b o hb e => ?_) (.inr ⟨dx, n, ?_, upd_same⟩)⟩
    · rw [upd_ne (ne_of_none e n), upd_ne hb, upd_ne (ne_of_none e n)]
      exact e
    · rw [upd_ne (Ne.symm ne)]
      exact upd_same
theorem ini0 {K : PySem.W.Frag} {vs : List V} {H : Hp} {Q : VK} {E : XK} (h : spIni K [] vs H Q E) : ∃ a : Addr, vs = [.ref a] ∧ Q .non H := by
  obtain ⟨a, C, ws, rfl, l, T, no, ha, k⟩ := h
  match ws, l with
  | [], _ => exact ⟨a, rfl, k H (fun _ _ _ e => e) (.inl ⟨rfl, ha⟩)⟩
/-- how it binds by place -/
theorem KBn.of {K : PySem.W.Frag} {fd : FuncData} {ps : List Str} {n : Nat} (b : Binds K fd ps []) (l : ps.length = n) : KBn K fd ps n [] (fun us _ => us) (fun vs _ => vs) :=
  ⟨fun s us ws X l1 _ => by
    have h := b s us X (by rw [List.append_nil, l1, l])
    rw [List.append_nil] at h
    exact h, fun r _ => r⟩
/-- .. by name, without defaults -/
theorem FunD.byName {K : PySem.W.Frag} {x qual : Str} {params : Arguments} {body : List Stmt} {scope : Scope} {kws : List (Str × V)} {f : Addr} {fd : FuncData} {ps : List Str} (F : FunD K x qual params body scope [] kws f fd) (n : Nat) (ks : List Str) (g : {α : Type} → List α → List α → List α)
    (rel : ∀ {vs zs : List V} {us ws : List Value}, Vals vs us → Vals zs ws → Vals (g vs zs) (g us ws))
    (h : ∀ (kV doc pm : Value) (an : Option Addr) (cdv ct : Value) (us ws : List Value), us.length = n → ws.length = ks.length → bindArgs (PySem.W.fnOf x qual params body scope .none kV doc pm an cdv ct) ⟨us, ks.zip ws⟩ = pure (ps.zip (g us ws))) :
    KBn K fd ps n ks (fun us ws => g us ws) (fun vs zs => g vs zs) := by
  obtain ⟨oc, od, dV, kV, doc, pm, an, cdv, ct, osl, rfl, lk, hcd, hD, hK⟩ := F.ex
  rcases hD with ⟨_, rfl⟩ | ⟨e, _⟩
  · exact ⟨fun s us ws X l1 l2 => .of_eq (h kV doc pm an cdv ct us ws l1 l2), rel⟩
  · exact absurd rfl e
/-- the reading of C(..) -/
theorem read_mkX {K K' : PySem.W.Frag} {x : Str} {names : List Str} (T : VH.ClOk K x names) {H : Hp} {R : VK} {as : List V} {a : Addr} (ws : List V) (n : H a = none) (eK : K' = K) (l : ws.length = names.length) (hg : as = .ref a :: ws)
    (k : ∀ H', Same H H' → IsEx H' a (ga K x) (names.zip ws).reverse → R .non H') : spIni K' names as (upd H a (exo a (ga K x) none)) R E0 := by
  subst eK
  exact ⟨a, ga K' x, ws, hg, l, T.mkx.toOexC, T.no, upd_same, fun H' bt is => k H' (fun b o e => bt b o (ne_of_none e n) (by
    rw [upd_ne (ne_of_none e n)]
    exact e)) is.is⟩
/-- the reading of raise C(..): Q of the class, the dict, the heap with it -/
theorem read_raise {K K' : PySem.W.Frag} {x : Str} {names : List Str} (T : VH.ClOk K x names) {H : Hp} {Q : XK} {as : List V} {a : Addr} (ws : List V) (n : H a = none) (eK : K' = K) (l : ws.length = names.length) (ne : ws ≠ []) (hg : as = .ref a :: ws)
    (k : ∀ (d : Addr) (H' : Hp), H d = none → Same H H' → H' d = some (.xd (names.zip ws).reverse) → Q (.ref (ga K x)) (some d) H') :
    spIni K' names as (upd H a (exo a (ga K x) none)) (fun v H2 => v = .non ∧ ∃ (d : Addr) (fs : List (Str × V)), H2 a = some (exo a (ga K x) (some d)) ∧ H2 d = some (exd d fs) ∧ H d = none ∧ Q (.ref (ga K x)) (some d) (upd (del H2 a) d (.xd fs))) (fun _ _ _ => False) := by
  subst eK
  refine ⟨a, ga K' x, ws, hg, l, T.mkx.toOexC, T.no, upd_same, fun H' bt is => ⟨rfl, ?_⟩⟩
  rcases is with ⟨z, _⟩ | ⟨dx, nd, e1, e2⟩
  · exfalso
    match ws, names, l, ne with
    | w :: ws, f :: fs, _, _ => simp at z
    | w :: ws, [], l, _ => simp at l
    | [], _, _, ne => exact ne rfl
  · have da : dx ≠ a := fun z => by
      rw [z, upd_same] at nd
      cases nd
    have nd' : H dx = none := by
      rw [upd_ne da] at nd
      exact nd
    refine ⟨dx, _, e1, e2, nd', k dx _ nd' (fun b o e => ?_) upd_same⟩
    have ba' : b ≠ a := ne_of_none e n
    rw [upd_ne (ne_of_none e nd'), del_ne ba']
    exact bt b o ba' (by
      rw [upd_ne ba']
      exact e)
/-- a row of such objects: their classes' names, their fields -/
def ExL (K : PySem.W.Frag) (H : Hp) : List V → List (Str × List (Str × V)) → Prop
  | [], [] => True
  | v :: vs, c :: cs => (∃ a, v = .ref a ∧ IsEx H a (ga K c.1) c.2) ∧ ExL K H vs cs
  | _, _ => False
theorem ExL.same {K : PySem.W.Frag} {H H' : Hp} (e : Same H H') : ∀ {vs : List V} {cs : List (Str × List (Str × V))}, ExL K H vs cs → ExL K H' vs cs
  | [], [], _ => trivial
  | [], _ :: _, h => h.elim
  | _ :: _, [], h => h.elim
  | v :: vs, c :: cs, ⟨⟨a, z, is⟩, h⟩ => ⟨⟨a, z, is.same e⟩, ExL.same e h⟩
theorem ExL.snoc {K : PySem.W.Frag} {H H' : Hp} {a : Addr} {c : Str × List (Str × V)} (e : Same H H') (is : IsEx H' a (ga K c.1) c.2) : ∀ {vs : List V} {cs : List (Str × List (Str × V))}, ExL K H vs cs → ExL K H' (vs ++ [.ref a]) (cs ++ [c])
  | [], [], _ => ⟨⟨a, rfl, is⟩, trivial⟩
  | [], _ :: _, h => h.elim
  | _ :: _, [], h => h.elim
  | v :: vs, d :: cs, ⟨⟨b, z, is'⟩, h⟩ => ⟨⟨b, z, is'.same e⟩, ExL.snoc e is h⟩
theorem ExL.len {K : PySem.W.Frag} {H : Hp} : ∀ {vs : List V} {cs : List (Str × List (Str × V))}, ExL K H vs cs → vs.length = cs.length
  | [], [], _ => rfl
  | [], _ :: _, h => h.elim
  | _ :: _, [], h => h.elim
  | v :: vs, c :: cs, ⟨_, h⟩ => congrArg Nat.succ h.len
theorem ExL.at {K : PySem.W.Frag} {H : Hp} : ∀ {vs : List V} {cs : List (Str × List (Str × V))} {i : Nat} {c : Str × List (Str × V)}, ExL K H vs cs → cs[i]? = some c → ∃ a, vs[i]? = some (.ref a) ∧ IsEx H a (ga K c.1) c.2
  | [], [], _, _, _, e => by cases e
  | [], _ :: _, _, _, h, _ => h.elim
  | _ :: _, [], _, _, h, _ => h.elim
  | v :: vs, d :: cs, 0, c, ⟨⟨a, z, is⟩, _⟩, e => by
    have e' : d = c := Option.some.inj e
    rw [← e']
    exact ⟨a, congrArg some z, is⟩
  | v :: vs, d :: cs, i + 1, c, ⟨_, h⟩, e => ExL.at h (i := i) e
end L2

namespace L2
open PySem PySem.Spec PyProof.Rows
theorem But.rd {p a : Addr} {H H' : Hp} {u : HO} (e : But p H H') (ne : a ≠ p) (r : Rd H a u) : Rd H' a u := by
  rcases r with r | ⟨o, r⟩
  · exact .inl (e _ _ ne r)
  · exact .inr ⟨o, e _ _ ne r⟩
theorem But.sq {K : PySem.W.Frag} {p a : Addr} {H H' : Hp} {xs : List V} (e : But p H H') (w : ∃ o, H p = some (.lst o)) (ne : ∀ o, H a = some o → a ≠ p) (r : SqL K H a xs) : SqL K H' a xs := by
  rcases r with (r | ⟨o, r⟩) | r
  · exact .inl (.inl (e _ _ (ne _ r) r))
  · exact .inl (.inr ⟨o, e _ _ (ne _ r) r⟩)
  · exact .inr r
theorem Rd.ne {a p : Addr} {H : Hp} {u : HO} (r : Rd H a u) (n : H p = none) : a ≠ p := by
  rcases r with r | ⟨o, r⟩
  · exact ne_of_none r n
  · exact ne_of_none r n
theorem Well.same {H H' : Hp} {a : Addr} (w : Well H a) (e : Same H H') : Well H' a := by
  obtain ⟨c, b, n, h⟩ := w
  exact ⟨c, b, n, e _ _ h⟩
end L2

set_option maxRecDepth 100000
set_option maxHeartbeats 4000000
/-! A written row of new exceptions. -/
namespace L2
open PySem PySem.Spec PyProof.Rows He
def MkE (K : PySem.W.Frag) (σ : St) (te : TE) (c : Str × List (Str × V)) : Prop := ∀ (H : Hp) (Q : VK), (∀ a H', Same H H' → IsEx H' a (ga K c.1) c.2 → Q (.ref a) H') → te σ H Q
def MkA (K : PySem.W.Frag) (σ : St) (t : TA) (cs : List (Str × List (Str × V))) : Prop := ∀ (H : Hp) (Q : List V → Hp → Prop), (∀ vs H', Same H H' → ExL K H' vs cs → Q vs H') → t σ H Q
section
variable {K K' : PySem.W.Frag} {σ : St} {te : TE} {t : TA} {c : Str × List (Str × V)} {cs : List (Str × List (Str × V))} {x : Str} {names : List Str} {v : V}
theorem mka_nil : MkA K σ tNil [] := fun H Q k => k [] H (Same.refl H) trivial
theorem mka_cons (h : MkE K σ te c) (r : MkA K σ t cs) : MkA K σ (tCons te t) (c :: cs) := fun H Q k =>
  h H _ fun a H1 s1 e1 => r H1 _ fun vs H2 s2 e2 => k _ H2 (s1.trans s2) ⟨⟨a, rfl, e1.same s2⟩, e2⟩
theorem mke0 (T : VH.ClOk K x []) (eK : K' = K := by rfl) : MkE K σ (tMkX (ga K x) 0 0 (spIni K' []) (fun vs _ => vs) E0 tNil tNil) (x, []) := fun H Q k =>
  ⟨rfl, rfl, fun a n => read_mkX T [] n eK rfl rfl fun H' s e => ⟨rfl, k a H' s e⟩⟩
theorem mke1 {f : Str} (T : VH.ClOk K x [f]) (h0 : σ[0]? = some (some v)) (eK : K' = K := by rfl) : MkE K σ (tMkX (ga K x) 1 0 (spIni K' [f]) (fun vs _ => vs) E0 (tCons (tVar 0) tNil) tNil) (x, [(f, v)]) := fun H Q k =>
  ⟨v, h0, rfl, rfl, fun a n => read_mkX T [v] n eK rfl rfl fun H' s e => ⟨rfl, k a H' s e⟩⟩
theorem mke2 {f g : Str} (T : VH.ClOk K x [f, g]) (h0 : σ[0]? = some (some v)) {w : V} (eK : K' = K := by rfl) : MkE K σ (tMkX (ga K x) 2 0 (spIni K' [f, g]) (fun vs _ => vs) E0 (tCons (tVar 0) (tCons (tC w) tNil)) tNil) (x, [(g, w), (f, v)]) := fun H Q k =>
  ⟨v, h0, rfl, rfl, fun a n => read_mkX T [v, w] n eK rfl rfl fun H' s e => ⟨rfl, k a H' s e⟩⟩
theorem mkk1 {f : Str} (T : VH.ClOk K x [f]) (h0 : σ[0]? = some (some v)) (eK : K' = K := by rfl) : MkE K σ (tMkX (ga K x) 0 1 (spIni K' [f]) (fun vs zs => vs ++ zs) E0 tNil (tCons (tVar 0) tNil)) (x, [(f, v)]) := fun H Q k =>
  ⟨v, h0, rfl, rfl, fun a n => read_mkX T [v] n eK rfl rfl fun H' s e => ⟨rfl, k a H' s e⟩⟩
theorem mkk2 {f g : Str} (T : VH.ClOk K x [f, g]) (h0 : σ[0]? = some (some v)) {w : V} (eK : K' = K := by rfl) : MkE K σ (tMkX (ga K x) 0 2 (spIni K' [f, g]) (fun vs zs => vs ++ zs.reverse) E0 tNil (tCons (tC w) (tCons (tVar 0) tNil))) (x, [(g, w), (f, v)]) := fun H Q k =>
  ⟨v, h0, rfl, rfl, fun a n => read_mkX T [v, w] n eK rfl rfl fun H' s e => ⟨rfl, k a H' s e⟩⟩
/-- two rows behind one another -/
theorem ExL.app {H : Hp} : ∀ {vs us : List V} {ds : List (Str × List (Str × V))}, ExL K H vs ds → ExL K H us cs → ExL K H (vs ++ us) (ds ++ cs)
  | [], _, [], _, h => h
  | [], _, _ :: _, h, _ => h.elim
  | _ :: _, _, [], h, _ => h.elim
  | _ :: _, _, _ :: _, ⟨e, h⟩, r => ⟨e, ExL.app h r⟩
/-- [C(..), ..] -/
theorem mk_lst (r : MkA K σ t cs) (few : cs.length ≤ 1000) {H : Hp} {Q : VK} (k : ∀ p vs H', H p = none → Same H H' → H' p = some (.lst vs) → ExL K H' vs cs → Q (.ref p) H') : tLst t σ H Q := by
  refine r H _ fun vs H1 s1 e1 => ⟨?_, fun p hp => k p vs _ (s1.free hp) (s1.trans (Same.new hp)) upd_same (e1.same (Same.new hp))⟩
  rw [e1.len, sizeLine_eq]
  omega
/-- some + [C(..), ..] -/
theorem mk_cat (r : MkA K σ t cs) {i : Nat} {l : Addr} {us : List V} {ds : List (Str × List (Str × V))} {H : Hp} {Q : VK} (hi : σ[i]? = some (some (.ref l))) (hl : H l = some (.lst us)) (e0 : ExL K H us ds) (few : cs.length ≤ 1000) (few2 : ds.length ≤ 1000)
    (k : ∀ p vs H', H p = none → Same H H' → H' p = some (.lst vs) → ExL K H' vs (ds ++ cs) → Q (.ref p) H') : tOp rCat (tVar i) (tLst t) σ H Q := by
  refine ⟨_, hi, mk_lst r few fun p vs H1 n s1 hp e1 => ?_⟩
  refine ⟨l, p, us, vs, rfl, rfl, s1 _ _ hl, hp, ?_, fun q hq => ?_⟩
  · rw [e1.len, e0.len, sizeLine_eq]
    omega
  · exact k q _ _ (s1.free hq) (s1.trans (Same.new hq)) upd_same (((e0.same s1).app e1).same (Same.new hq))
theorem seq_mk (r : MkA K σ t cs) (few : cs.length ≤ 1000) {i : Nat} {u : TS} {D : Ends} {H : Hp} (k : ∀ p vs H', H p = none → Same H H' → H' p = some (.lst vs) → ExL K H' vs cs → u D (σ.set i (some (.ref p))) H') : tSeq (tAsg (tLst t) (gName i)) u D σ H :=
  mk_lst (Q := fun x H1 => gName i x σ H1 (u D)) r few k
theorem seq_cat (r : MkA K σ t cs) {i : Nat} {l : Addr} {us : List V} {ds : List (Str × List (Str × V))} {u : TS} {D : Ends} {H : Hp} (hi : σ[i]? = some (some (.ref l))) (hl : H l = some (.lst us)) (e0 : ExL K H us ds) (few : cs.length ≤ 1000) (few2 : ds.length ≤ 1000)
    (k : ∀ p vs H', H p = none → Same H H' → H' p = some (.lst vs) → ExL K H' vs (ds ++ cs) → u D (σ.set i (some (.ref p))) H') : tSeq (tAsg (tOp rCat (tVar i) (tLst t)) (gName i)) u D σ H :=
  mk_cat (Q := fun x H1 => gName i x σ H1 (u D)) r hi hl e0 few few2 k
theorem ret_cat (r : MkA K σ t cs) {i : Nat} {l : Addr} {us : List V} {ds : List (Str × List (Str × V))} {D : Ends} {H : Hp} (hi : σ[i]? = some (some (.ref l))) (hl : H l = some (.lst us)) (e0 : ExL K H us ds) (few : cs.length ≤ 1000) (few2 : ds.length ≤ 1000)
    (k : ∀ p vs H', H p = none → Same H H' → H' p = some (.lst vs) → ExL K H' vs (ds ++ cs) → D.rt (.ref p) H') : tRet (tOp rCat (tVar i) (tLst t)) D σ H :=
  mk_cat (Q := D.rt) r hi hl e0 few few2 k
end
end L2

set_option maxRecDepth 100000
set_option maxHeartbeats 4000000
namespace L2
open PySem PySem.Spec PyProof.Rows He
/-- the reading of raise C(..) -/
theorem read_rz {K K' : PySem.W.Frag} {x : Str} {names : List Str} (T : VH.ClOk K x names) {H : Hp} {R : VK} {as : List V} {a : Addr} (ws : List V) (n : H a = none) (eK : K' = K) (l : ws.length = names.length) (ne : ws ≠ []) (hg : as = .ref a :: ws)
    (k : ∀ (d : Addr) (H2 : Hp), H2 a = some (exo a (ga K x) (some d)) → H2 d = some (exd d (names.zip ws).reverse) → H d = none → Same H (upd (del H2 a) d (.xd (names.zip ws).reverse)) → R .non H2) :
    spIni K' names as (upd H a (exo a (ga K x) none)) R (fun _ _ _ => False) := by
  subst eK
  refine ⟨a, ga K' x, ws, hg, l, T.mkx.toOexC, T.no, upd_same, fun H' bt is => ?_⟩
  rcases is with ⟨z, _⟩ | ⟨dx, nd, e1, e2⟩
  · exfalso
    match ws, names, l, ne with
    | w :: ws, f :: fs, _, _ => simp at z
    | w :: ws, [], l, _ => simp at l
    | [], _, _, ne => exact ne rfl
  · have da : dx ≠ a := fun z => by
      rw [z, upd_same] at nd
      cases nd
    have nd' : H dx = none := by
      rw [upd_ne da] at nd
      exact nd
    refine k dx H' e1 e2 nd' (fun b o e => ?_)
    have ba' : b ≠ a := ne_of_none e n
    rw [upd_ne (ne_of_none e nd'), del_ne ba']
    exact bt b o ba' (by
      rw [upd_ne ba']
      exact e)
end L2

set_option maxRecDepth 100000
set_option maxHeartbeats 4000000
/-! != of two lists whose items are the same things, or tuples of the same things. -/
namespace L2
open PySem PySem.Spec PyProof.Rows
def plainV : V → Bool
  | .ref _ => true
  | v => flatB v
theorem eqAt_plain {A : Around} {s : Shared} {v : V} {u u' : Value} (r : RelV v u) (r' : RelV v u') (f : plainV v = true) : SeqAt.EqAt A s u u' true := by
  cases v with
  | ref a =>
    cases (show u = Value.ref a from r)
    cases (show u' = Value.ref a from r')
    exact SeqAt.EqAt.same _
  | non => exact eqAt_same r r' f
  | bl b => exact eqAt_same r r' f
  | int i => exact eqAt_same r r' f
  | str z => exact eqAt_same r r' f
  | byt b => exact eqAt_same r r' f
  | flt b => cases f
  | ty n => cases f
/-- the same thing, or tuples of the same things -/
def SmV (K : PySem.W.Frag) (H : Hp) (x y : V) : Prop := (x = y ∧ plainV x = true) ∨ ∃ (a b : Addr) (xs : List V), x = .ref a ∧ y = .ref b ∧ SqT K H a xs ∧ SqT K H b xs ∧ ∀ v ∈ xs, plainV v = true
def SmL (K : PySem.W.Frag) (H : Hp) : List V → List V → Prop
  | [], [] => True
  | x :: xs, y :: ys => SmV K H x y ∧ SmL K H xs ys
  | _, _ => False
theorem SmL.same {K : PySem.W.Frag} {H : Hp} : ∀ {xs : List V}, (∀ v ∈ xs, plainV v = true) → SmL K H xs xs
  | [], _ => trivial
  | x :: xs, h => ⟨.inl ⟨rfl, h x (by simp)⟩, SmL.same fun v hv => h v (by simp [hv])⟩
theorem SmL.len {K : PySem.W.Frag} {H : Hp} : ∀ {xs ys : List V}, SmL K H xs ys → xs.length = ys.length
  | [], [], _ => rfl
  | [], _ :: _, h => h.elim
  | _ :: _, [], h => h.elim
  | _ :: _, _ :: _, ⟨_, h⟩ => congrArg Nat.succ h.len
theorem SmL.at {K : PySem.W.Frag} {H : Hp} : ∀ {xs ys : List V} {i : Nat} {x y : V}, SmL K H xs ys → xs[i]? = some x → ys[i]? = some y → SmV K H x y
  | [], _, _, _, _, _, e, _ => by simp at e
  | _ :: _, [], _, _, _, h, _, _ => h.elim
  | x :: xs, y :: ys, 0, _, _, ⟨h, _⟩, e1, e2 => by
    simp at e1 e2
    rw [← e1, ← e2]
    exact h
  | x :: xs, y :: ys, i + 1, _, _, ⟨_, h⟩, e1, e2 => SmL.at (i := i) h (by simpa using e1) (by simpa using e2)
section
variable {X : Cx} {pins : List (Addr × Obj)} {σ : St} {H : Hp} {s : Shared}
theorem eqAt_sm (I : Inv X pins σ H s) {A : Around} (hu : A.units < cLine) {x y : V} {u u' : Value} (h : SmV X.K H x y) (r : RelV x u) (r' : RelV y u') : SeqAt.EqAt A s u u' true := by
  rcases h with ⟨rfl, f⟩ | ⟨a, b, xs, rfl, rfl, ha, hb, pl⟩
  · exact eqAt_plain r r' f
  · cases (show u = Value.ref a from r)
    cases (show u' = Value.ref b from r')
    by_cases e : a = b
    · subst e
      exact SeqAt.EqAt.same _
    · obtain ⟨us, r1, ⟨o1, g1, c1, n1, d1⟩, _⟩ := I.tuple ha
      obtain ⟨ws, r2, ⟨o2, g2, c2, n2, d2⟩, _⟩ := I.tuple hb
      refine SeqAt.EqAt.of_refs e ?_
      have lu := r1.length
      have lw := r2.length
      have hh := SeqAt.RcAt.tuples (s := s) (A := A) (e := fun _ => true) ⟨o1, g1, c1, n1, d1⟩ ⟨o2, g2, c2, n2, d2⟩ hu (fun j h1 h2 => by
        have h1' : j < us.length := by simpa using h1
        have h2' : j < ws.length := by simpa using h2
        have hx : j < xs.length := by omega
        obtain ⟨u1, e1, q1⟩ := r1.get (List.getElem?_eq_getElem hx)
        obtain ⟨u2, e2, q2⟩ := r2.get (List.getElem?_eq_getElem hx)
        rw [List.getElem?_eq_getElem h1'] at e1
        rw [List.getElem?_eq_getElem h2'] at e2
        cases Option.some.inj e1
        cases Option.some.inj e2
        exact eqAt_plain q1 q2 (pl _ (List.getElem_mem hx)))
      have e2 : ((List.range (min us.toArray.size ws.toArray.size)).all (fun _ => true) && us.toArray.size == ws.toArray.size) = true := by
        have : us.toArray.size = ws.toArray.size := by
          rw [List.size_toArray, List.size_toArray]
          omega
        rw [this]
        simp
      rw [e2] at hh
      exact hh
def rNeS (K : PySem.W.Frag) : R2 := fun x y H Q => ∃ (a b : Addr) (xs ys : List V), x = .ref a ∧ y = .ref b ∧ SqL K H a xs ∧ SqL K H b ys ∧ SmL K H xs ys ∧ Q (.bl false) H
theorem op_neS (hu : X.A.units + 64 < cLine) : OpR X (compareOp .NotEq) (rNeS X.K) := by
  intro pins s σ H x y v u Q I rx ry h
  obtain ⟨a, b, xs, ys, rfl, rfl, ha, hb, sm, q⟩ := h
  cases (show v = Value.ref a from rx)
  cases (show u = Value.ref b from ry)
  obtain ⟨us, r1, p1, _⟩ := I.list ha
  obtain ⟨ws, r2, p2, _⟩ := I.list hb
  have lu := r1.length
  have lw := r2.length
  have ll := sm.len
  have sz : us.toArray.size = ws.toArray.size := by
    rw [List.size_toArray, List.size_toArray]
    omega
  have hh := SeqAt.RcNeAt.lists (s := s) (A := X.A) (e := fun _ => true) p1.isList p2.isList sz (by omega) (fun j h1 h2 => by
    have h1' : j < us.length := by simpa using h1
    have h2' : j < ws.length := by simpa using h2
    have hx : j < xs.length := by omega
    have hy : j < ys.length := by omega
    obtain ⟨u1, e1, q1⟩ := r1.get (List.getElem?_eq_getElem hx)
    obtain ⟨u2, e2, q2⟩ := r2.get (List.getElem?_eq_getElem hy)
    rw [List.getElem?_eq_getElem h1'] at e1
    rw [List.getElem?_eq_getElem h2'] at e2
    cases Option.some.inj e1
    cases Option.some.inj e2
    exact eqAt_sm I (A := X.A.in1) (by show X.A.units + 1 < cLine; omega) (sm.at (List.getElem?_eq_getElem hx) (List.getElem?_eq_getElem hy)) q1 q2)
  have e0 : (!(List.range us.toArray.size).all fun _ => true) = false := by simp
  rw [e0] at hh
  exact hh X.prog X.w _ _ ⟨.bl false, H, I, rfl, q⟩
end
end L2

set_option maxRecDepth 100000
set_option maxHeartbeats 4000000
/-! ValueError(e) as a value, asked for its class. -/
namespace L2
open PySem PySem.Spec PyProof.Rows
def veO (a : Addr) : HO := .ext fun h => ∃ o, h.get? a = some o ∧ o.cls = .type "ValueError"
theorem pe_ve {X : Cx} {p pos : Pos} {e : Expr} {es : List Expr} {t : TA} (hg : Gl X "ValueError") (hm : X.mg "ValueError" = none) (ha : PA X (e :: es) t) (he : starEach (e :: es) X.env = (false, eval e X.env) :: starEach es X.env := by rfl) (hpl : (backTo pos (starEach es X.env)).any (·.1) = false := by rfl) :
    PE X (.Call (.Name "ValueError" p) (e :: es) [] pos) (fun σ H Q => t σ H fun vs H1 => vs.length ≤ 1000 ∧ ∀ a, H1 a = none → Q (.ref a) (upd H1 a (veO a))) := by
  refine ⟨fun pins s σ H Q I h => ?_⟩
  refine wpAny_Call_Name_kw (ld_blt I hg hm boot_ValueError ?_ (by decide) (by decide))
  refine PyProof.Rows.callWith_type1 (thn (ha.run pos pins s σ H _ I h) fun us z hh => ?_) he hpl
  obtain ⟨vs, H1, I1, r1, few, q1⟩ := hh
  obtain ⟨hp, g, d, tk, os⟩ := z
  refine wpAny_call_exc exb_ValueError.call (fun h' a mk => ?_) (by
    have e1 := r1.length
    rw [sizeLine_eq]
    omega)
  have mk' := PySem.Heap.MadeExc.of mk
  have n : H1 a = none := I1.hok.gone mk'.new
  obtain ⟨t0, at_, _, _⟩ := mk'.there
  exact ⟨.ref a, upd H1 a (veO a), I1.laidN mk'.keeps mk'.new n ⟨⟨_, at_, rfl⟩, ⟨_, at_⟩, fun _ _ ⟨o, q, c⟩ k => ⟨o, k o q, c⟩⟩, rfl, q1 a n⟩
theorem ve_kit {K : PySem.W.Frag} {a : Addr} : PySem.W.KitX K (.ref a) (.type "ValueError") (fun h => ∃ o, h.get? a = some o ∧ o.cls = .type "ValueError") where
  ty := fun M h _ ⟨o, e, c⟩ A Q E s k q => wpAny_typeOf_ref (k _ _ e) (by
    rw [c]
    exact q)
  it := fun _ _ _ _ => PySem.W.Looks.of_pure rfl
  ne := fun _ _ _ _ _ _ _ _ => rfl
  ca := fun {prog w A E Q s} X ⟨o, e, c⟩ go => by
    obtain ⟨hp, g, d, t, os⟩ := s
    exact PySem.class_attr_exc PySem.F.excAttr_ValueError PySem.F.lkClass_ValueError PySem.F.soClass_ValueError (by decide) e c go
def rIsVe (K : PySem.W.Frag) : List V → Hp → VK → Prop := fun xs H Q => ∃ (a : Addr) (c : V) (cv : Value) (b : Bool), xs = [.ref a, c] ∧ H a = some (veO a) ∧ (∀ u, RelV c u → u = cv) ∧ PySem.W.kitOne K (.type "ValueError") cv = some b ∧ Q (.bl b) H
theorem call_isVe {X : Cx} : CallR X (.builtin "isinstance") (rIsVe X.K) := by
  intro pins s σ H xs us Q I r h
  obtain ⟨a, c, cv, b, rfl, ha, hcv, e, q⟩ := h
  obtain ⟨u, v, rfl, ru, rv⟩ := vals2 r
  obtain rfl : u = Value.ref a := ru
  obtain rfl := hcv _ rv
  have z : ObjOk X.prog X.w H s.heap a (.ext fun h => ∃ o, h.get? a = some o ∧ o.cls = .type "ValueError") := I.hok a _ ha
  exact PySem.W.kia_one ve_kit I.kIn z.1 e (fun z => nomatch z) fun tk => ⟨.bl b, H, I.kept (t' := tk) fun _ _ z => z, rfl, q⟩
end L2

set_option maxRecDepth 100000
set_option maxHeartbeats 4000000
namespace L2
open PySem PySem.Spec PyProof.Rows
theorem for_enumX {K : PySem.W.Frag} {a : Addr} {xs : List V} {g : TG} {tb : TS} {D : Ends} {σ : St} {H : Hp} (Pv : Nat → St → Hp → Prop) (h0 : Pv 0 σ H) (hl : ∀ i σ H, i ≤ xs.length → Pv i σ H → SqL K H a xs)
    (hs : ∀ i x σ H T, xs[i]? = some x → Pv i σ H → H T = none → g (.ref T) σ (upd H T (.tup [.int (i : Nat), x])) fun σ2 H2 => tb { D with nx := Pv (i + 1), ct := Pv (i + 1), bk := D.nx } σ2 H2) (hd : ∀ σ H, Pv xs.length σ H → D.nx σ H) :
    ∃ W : Nat → Nat → St → Hp → Prop, (∃ m, W 0 m σ H) ∧ ∀ i m σ H, W i m σ H →
      ((Ite K a).stop i H ∧ D.nx σ H) ∨ ((Ite K a).go i H ∧ ∃ N : St → Hp → Prop, (∀ σ' H', N σ' H' → ∃ m', m' < m ∧ W (i + 1) m' σ' H') ∧ ∀ x H', (Ite K a).yld i H x H' → g x σ H' fun σ2 H2 => tb { D with nx := N, ct := N, bk := D.nx } σ2 H2) := by
  refine ⟨fun i m σ H => m = xs.length - i ∧ i ≤ xs.length ∧ Pv i σ H, ⟨xs.length, by simp, Nat.zero_le _, h0⟩, ?_⟩
  rintro i m σ H ⟨rfl, le, p⟩
  have q := hl i σ H le p
  by_cases lt : i < xs.length
  · refine .inr ⟨⟨xs, xs[i], q, by simp [lt]⟩, Pv (i + 1), fun σ' H' p' => ⟨xs.length - (i + 1), by omega, rfl, lt, p'⟩, ?_⟩
    rintro y H' ⟨T, x, rfl, nT, rfl, sure⟩
    exact hs i x σ H T (sure xs q) p nT
  · have e : i = xs.length := by omega
    subst e
    exact .inl ⟨⟨xs, q, Nat.le_refl _⟩, hd σ H p⟩
end L2

set_option maxRecDepth 100000
set_option maxHeartbeats 4000000
/-! try with several except clauses, each with a name or without. -/
namespace L2
open PySem PySem.Spec PyProof.Rows
/-- a clause: its class, the slot of its name, its suite's reading -/
abbrev Clause : Type := Value × Option Nat × (Addr → Value → Option Addr → TS)
def Ends.drop (D : Ends) (i : Nat) : Ends := { nx := fun σ H => D.nx (σ.set i none) H, rt := D.rt, bk := fun σ H => D.bk (σ.set i none) H, ct := fun σ H => D.ct (σ.set i none) H }
def Clause.go (q : Clause) (a : Addr) (cls : Value) (d : Option Addr) (D : Ends) (σ : St) (H : Hp) : Prop := match q.2.1 with
  | none => q.2.2 a cls d D σ H
  | some i => q.2.2 a cls d (D.drop i) (σ.set i (some (.ref a))) H
/-- what the clauses wish, one behind another -/
def wMix (K : PySem.W.Frag) (Wout : WX) (D : Ends) : List Clause → WX
  | [] => Wout
  | q :: r => fun cls d σ H => ∃ b, PySem.W.exmOne K cls q.1 = some b ∧ (b = true → ∀ a, H a = none → q.go a cls d D σ H) ∧ (b = false → wMix K Wout D r cls d σ H)
inductive MixOk (X : Cx) : List ExceptHandler → List Clause → Prop
  | nil : MixOk X [] []
  | bare {x : Str} {c : Value} {ts : Addr → Value → Option Addr → TS} {st : Stmt} {more : List Stmt} {p1 p2 : Pos} {hs : List ExceptHandler} {l : List Clause} (hc : Names X x c)
      (su : ∀ (a : Addr) (oe : Obj) (cls : Value) (d : Option Addr) (pn : List (Addr × Obj)), Zc cls d oe → (∃ vs, oe.data = .fields vs) → PSs (X.suite a ((a, oe) :: pn)) (st :: more) (ts a cls d)) (r : MixOk X hs l) :
      MixOk X (.ExceptHandler (some (.Name x p1)) none (st :: more) p2 :: hs) ((c, none, ts) :: l)
  | named {x n : Str} {i : Nat} {c : Value} {ts : Addr → Value → Option Addr → TS} {st : Stmt} {more : List Stmt} {p1 p2 : Pos} {hs : List ExceptHandler} {l : List Clause} (hN : X.N.Nodup) (hi : X.N[i]? = some n) (hl : X.env.kindOf n = some .local) (hc : Names X x c)
      (su : ∀ (a : Addr) (oe : Obj) (cls : Value) (d : Option Addr) (pn : List (Addr × Obj)), Zc cls d oe → (∃ vs, oe.data = .fields vs) → PSs (X.suite a ((a, oe) :: pn)) (st :: more) (ts a cls d)) (r : MixOk X hs l) :
      MixOk X (.ExceptHandler (some (.Name x p1)) (some n) (st :: more) p2 :: hs) ((c, some i, ts) :: l)
section
variable {X : Cx} {body : List Stmt} {k0 : ExceptHandler} {ks : List ExceptHandler} {l : List Clause} {pos : Pos} {tb : WX → TS} {Wout : WX}
theorem ps_try_mix (hst : X.stack = X.env :: X.outer) (hfr : X.env.frame = some X.env.locals) (tk : Takes X Wout)
    (hb : ∀ (W : WX) (pn : List (Addr × Obj)) (xe : Value → Shared → Prop), Takes (X.tr pn xe) W → PassesOwn (model X.prog X.w) X.A X.env xe → PSs (X.tr pn xe) body (tb W))
    (hk : MixOk X (k0 :: ks) l) : PS X (.Try body (k0 :: ks) [] [] pos) (fun D σ H => tb (wMix X.K Wout D l) D σ H) := by
  refine ⟨fun pins s σ H D I h => ?_⟩
  have good := I.ok
  have fr : X.A.frames = some (X.env :: X.outer) := by
    rw [good.frames, hst]
  refine wpAny_Try_except ?_
  refine wpAny_mono ((hb (wMix X.K Wout D l) (X.pn ++ pins) (fun e z1 => wpAny (model X.prog X.w) X.A (noteFrame e X.env) (fun _ z2 => wpAny (model X.prog X.w) X.A (setFlight e none)
    (fun _ z3 => wpAny (model X.prog X.w) X.A (handleBy e X.env (k0 :: ks)) (SP X pins D) X.xe z3) X.xe z2) X.xe z1) (fun u s' air => ?_) PassesOwn.looking).run [] s σ H D (I.toTry _) h)
    (fun f z hz => ?_) (fun e z hz => hz)
  · obtain ⟨a, B, sB, qs, ρ, G, cls, d, rfl, J0, inB, ups, sky, nG, eos, bare, wish⟩ := air
    have J : Inv X pins ρ G sB := J0.ofTry good
    have sk : Sky B (X.env :: X.outer) a (Zc cls d) X.env.locals s'.heap := by
      rw [← hst]
      exact sky
    show wpAny (model X.prog X.w) X.A (noteFrame (Value.ref a) X.env) _ _ _
    refine Sky.land Zc.steady fr hfr sk fun g3 fly up3 => ?_
    have J3 : Inv X pins ρ G { s' with heap := g3 } := J.landed inB fly.1 (ups.trans up3) eos bare
    obtain ⟨o3, v3, at3, z3, d3⟩ := fly.there
    have away : a ∉ frs (X.env :: X.outer) := fun hm => by
      obtain ⟨_, o', e', no⟩ := fly.2.2.1.mem hm
      rw [at3] at e'
      cases e'
      exact no _ d3
    have nL : a ≠ X.env.locals := fun z => away (List.mem_filterMap.mpr ⟨X.env, List.mem_cons_self, by
      rw [hfr, z]⟩)
    have nF : a ∉ X.fs := fun hm => by
      obtain ⟨e, he, q⟩ := List.mem_filterMap.mp hm
      exact away (List.mem_filterMap.mpr ⟨e, List.mem_cons_of_mem _ he, q⟩)
    have S3 := J3.suite at3 d3 nG nL nF
    have isC : PySem.W.Looks (model X.prog X.w) g3 (typeOf (.ref a)) cls := fun A Q E s k q => wpAny_typeOf_ref (k _ _ at3) (by
      rw [z3.1]
      exact q)
    have name : ∀ {x : Str} {c : Value} {p1 : Pos} {Q : Value → Shared → Prop} {E : Value → Shared → Prop}, Names X x c → Q c { s' with heap := g3 } → wpAny (model X.prog X.w) (X.A.mark (some (.ref a))) (eval (.Name x p1) X.env) Q E { s' with heap := g3 } := fun {x c p1 Q E} hc q => by
      obtain ⟨w1, w2, w3 | ⟨w3, w4, w5⟩⟩ := hc
      · exact ld_glob (X := X.suite a ((a, o3) :: (X.pn ++ pins))) S3 w1 w3 q w2
      · exact ld_blt (X := X.suite a ((a, o3) :: (X.pn ++ pins))) S3 w1 w3 w4 q w5 w2
    have go : ∀ {hs' : List ExceptHandler} {l' : List Clause}, MixOk X hs' l' → wMix X.K Wout D l' cls d ρ G → wpAny (model X.prog X.w) X.A (handleBy (.ref a) X.env hs') (SP X pins D) X.xe { s' with heap := g3 } := by
      intro hs' l' m
      induction m with
      | nil =>
        intro w
        refine wpAny_handleBy_nil ?_
        obtain ⟨_, _, _, oe, vs, tb', _, _, he, _, hd, h1, _⟩ := id fly
        unfold PySem.passOn
        refine wpAny_bind (wpAny_field he hd h1 ?_)
        rw [if_neg (show ¬ ((Value.ref tb' == Value.none) = true) by simp)]
        have out : wpAny (model X.prog X.w) X.A (setFlight (.ref a) X.env.frame) (fun _ z4 => wpAny (model X.prog X.w) X.A (throw (.ref a) : Sem Flow) (SP X pins D) X.xe z4) X.xe { s' with heap := g3 } := by
          rw [hfr]
          refine HandSPX.setFlight_upZ fly fun h4 held up4 => wpAny_throw (tk _ _ ?_)
          exact ⟨a, B, sB, pins, ρ, G, cls, d, rfl, J, inB, (ups.trans up3).trans up4, .inr (.inr (by
            rw [hst]
            exact held)), nG, eos, bare, w⟩
        first
          | exact wpAny_bind (wpAny_pure (wpAny_bind out))
          | exact wpAny_bind out
      | @bare x c ts st more p1 p2 hs2 l2 hc su r ih =>
        intro w
        obtain ⟨b, e1, yes, no⟩ := w
        refine wpAny_handleBy_cons (codeAny_handlers_test ?_) (by
          intro q
          cases q)
        refine name hc ((PySem.W.exm_one (M := model X.prog X.w) J3.kIn isC e1).here ?_)
        cases b with
        | true =>
          refine codeAny_handlers_suite ?_
          refine HandSPX.lands_againZ fly fun g4 fly4 up4 => ?_
          have J4 : Inv X pins ρ G { s' with heap := g4 } := J.landed inB fly4.1 ((ups.trans up3).trans up4) eos bare
          obtain ⟨o4, v4, at4, z4, d4⟩ := fly4.there
          refine wpAny_mono ((su a o4 cls d (X.pn ++ pins) z4 ⟨_, d4⟩).run [] _ _ G _ (J4.suite at4 d4 nG nL nF) (yes rfl a nG)) (fun f z6 hsp => ?_) (fun _ _ z => False.elim z)
          cases f with
          | ret u =>
            obtain ⟨v6, ρ6, G6, S6, r6, q6⟩ := hsp
            exact ⟨_, _, _, S6.unsuite good, r6, q6⟩
          | _ =>
            obtain ⟨ρ6, G6, S6, q6⟩ := hsp
            exact ⟨_, _, S6.unsuite good, q6⟩
        | false =>
          show wpAny _ X.A (handleBy (.ref a) X.env hs2) _ _ _
          exact ih (no rfl)
      | @named x n i c ts st more p1 p2 hs2 l2 hN hi hl hc su r ih =>
        intro w
        obtain ⟨b, e1, yes, no⟩ := w
        have loc : Loc X.env.scope n := .inl hl
        refine wpAny_handleBy_cons (codeAny_handlers_test ?_) (by
          intro q
          cases q)
        refine name hc ((PySem.W.exm_one (M := model X.prog X.w) J3.kIn isC e1).here ?_)
        cases b with
        | true =>
          refine codeAny_handlers_suite_as ?_
          refine HandSPX.lands_againZ fly fun g4 fly4 up4 => ?_
          have J4 : Inv X pins ρ G { s' with heap := g4 } := J.landed inB fly4.1 ((ups.trans up3).trans up4) eos bare
          obtain ⟨o4, v4, at4, z4, d4⟩ := fly4.there
          refine store_ok (X := X.suite a ((a, o4) :: (X.pn ++ pins))) (v := V.ref a) (J4.suite at4 d4 nG nL nF) hN hi loc rfl (fun z5 S5 => ?_) (.inr hl)
          refine wpAny_mono ((su a o4 cls d (X.pn ++ pins) z4 ⟨_, d4⟩).run [] z5 _ G _ S5 (yes rfl a nG)) (fun f z6 hsp => ?_) (fun _ _ z => False.elim z)
          have goes : ∀ {ρ6 : St} {G6 : Hp} {Q : Shared → Prop}, Inv (X.suite a ((a, o4) :: (X.pn ++ pins))) [] ρ6 G6 z6 → (∀ z7, Inv X pins (ρ6.set i none) G6 z7 → Q z7) →
              wpAny (model X.prog X.w) X.A (do bindName X.env n .none; unbindBehindTheSuite X.env n p2) (fun _ z7 => Q z7) X.xe z6 := fun S6 hq => gone_ok (S6.unsuite good) hN hi hl hq
          cases f with
          | ret u =>
            obtain ⟨v6, ρ6, G6, S6, r6, q6⟩ := hsp
            exact goes S6 fun z7 J7 => ⟨_, _, _, J7, r6, q6⟩
          | _ =>
            obtain ⟨ρ6, G6, S6, q6⟩ := hsp
            exact goes S6 fun z7 J7 => ⟨_, _, J7, q6⟩
        | false =>
          show wpAny _ X.A (handleBy (.ref a) X.env hs2) _ _ _
          exact ih (no rfl)
    exact go hk wish
  · cases f with
    | next =>
      obtain ⟨ρ, G, J0, q⟩ := hz
      exact wpAny_execs_nil ⟨ρ, G, J0.ofTry good, q⟩
    | ret u =>
      obtain ⟨v, ρ, G, J0, r, q⟩ := hz
      exact ⟨v, ρ, G, J0.ofTry good, r, q⟩
    | _ =>
      obtain ⟨ρ, G, J0, q⟩ := hz
      exact ⟨ρ, G, J0.ofTry good, q⟩
end
/-- isinstance(e, c) in a suite, e the exception that it holds, with a dict of its own -/
def rIsD (K : PySem.W.Frag) (a : Addr) (cls : Value) (d : Option Addr) : List V → Hp → VK → Prop := fun xs H Q => ∃ (D dd : Addr) (fs : List (Str × V)) (c : V) (cv : Value) (b : Bool), xs = [.ref a, c] ∧ cls = .ref D ∧ d = some dd ∧ H dd = some (.xd fs) ∧ ExcC K D ∧ (∀ u, RelV c u → u = cv) ∧
  PySem.W.kitOne K (.ref D) cv = some b ∧ Q (.bl b) H
theorem call_isD {X : Cx} {a : Addr} {oe : Obj} {cls : Value} {d : Option Addr} {pn : List (Addr × Obj)} (hz : Zc cls d oe) (hf : ∃ vs, oe.data = .fields vs) : CallR (X.suite a ((a, oe) :: pn)) (.builtin "isinstance") (rIsD X.K a cls d) := by
  intro pins s σ H xs us Q I r h
  obtain ⟨D, dd, fs, c, cv, b, rfl, rfl, rfl, hd, C, hcv, e, q⟩ := h
  obtain ⟨u, v, rfl, ru, rv⟩ := vals2 r
  obtain rfl : u = Value.ref a := ru
  obtain rfl := hcv _ rv
  obtain ⟨at_, _⟩ := I.pin (a, oe) (List.mem_append_left _ List.mem_cons_self)
  obtain ⟨vs, hv⟩ := hf
  obtain ⟨mA, ns, _⟩ := (show ObjOk X.prog X.w H s.heap dd (.xd fs) from I.hok dd _ hd)
  obtain ⟨od, eo, _⟩ := lookIn_ns ns
  have J : PySem.W.InstAt s.heap a oe D (some od) := by
    refine ⟨at_, hz.1, ?_, ?_⟩
    · unfold PySem.W.notCls
      rw [hv]
    · rw [hz.2]
      exact eo
  exact PySem.W.kia_one (PySem.W.vx_kit C) I.kIn ⟨oe, some od, J⟩ e (fun z => nomatch z) fun tk => ⟨.bl b, H, I.kept (t' := tk) fun _ _ z => z, rfl, q⟩
end L2

set_option maxRecDepth 100000
set_option maxHeartbeats 0
namespace K05
open PySem PySem.Spec PyProof.Rows L2 He VH
def top (i : Nat) : Stmt := PySem.Challenge.pw_fillbehind_k05_exceptions.main.body.getD i (.Pass ⟨0, 0, 0, 0⟩)
/-- the classes, in the order in which the law asks for them, with their fields -/
def cls : List (Str × List Str) := [("NoStatement", []), ("NoState", []), ("NoRow", ["part"]), ("NoNumber", ["part"]), ("NoFill", ["part"]), ("NoPhase", ["part"]), ("NoRun", ["part"]), ("NoKey", ["key"]), ("NoDeed", ["deed"]),
  ("NotNow", ["word"]), ("NoDeeds", ["index"]), ("NoMove", ["deed"]), ("NoHistory", ["index"]), ("NoTable", ["index"]), ("TooMany", ["most"]), ("NoWord", ["word"]), ("NoOption", ["option"]), ("NoOptions", ["index"]), ("NoText", ["line"]), ("NoChange", ["word"]),
  ("NoWriter", ["part", "index"]), ("NoRollout", ["part", "index"]), ("NoAnswer", ["part", "index"])]
def nmC (i : Nat) : Str := (cls.getD i ("", [])).1
def ex (K : PySem.W.Frag) : Bool := (dcB K && decide (PySem.W.kitOne K (.type "ValueError") (.ref (ga K "FillError")) = some false)) && (((cls.all fun c => clB K c.1 c.2) && ((List.range 23).all fun i => (List.range 23).all fun j => decide (PySem.W.kitOne K (.ref (ga K (nmC i))) (.ref (ga K (nmC j))) = some (i == j))) &&
  ((cls.all fun c => decide (PySem.W.kitOne K (.ref (ga K c.1)) (.ref (ga K "FillError")) = some true)) && (cls.all fun c => decide (PySem.W.kitOne K (.ref (ga K c.1)) (.type "ValueError") = some true)))) &&
  (([2, 9, 22] : List Nat).all fun i => (([2, 9] : List Nat).all fun j => decide (PySem.W.exmOne K (.ref (ga K (nmC i))) (.ref (ga K (nmC j))) = some (i == j))) && decide (PySem.W.exmOne K (.ref (ga K (nmC i))) (.ref (ga K "FillError")) = some true)))
def names : List PySem.Str := ["FillError", "NoStatement", "NoRow", "NoNumber", "NoWriter", "NoFill", "NoPhase", "NoRollout", "NoRun", "NoKey", "NoDeed", "NotNow", "NoDeeds", "NoState", "NoMove", "NoHistory", "NoTable", "TooMany", "NoWord", "NoAnswer", "NoOption", "NoOptions", "NoText", "NoChange",
  "_law_draw", "_law_well", "_law_one", "_law_kinds", "_law_by_place", "_law_by_name", "_law_fields", "_law_caught"]
def fa : List He.Fa := [.glo "FillError", .glo "_law_draw", .glo "_law_well", .glo "_law_one", .glo "_law_kinds", .glo "_law_by_place", .glo "_law_by_name", .glo "_law_fields", .glo "_law_caught", .glo "law", .free "len", .free "int", .free "range", .free "enumerate", .free "isinstance", .free "ValueError"]
def dd (i : Nat) (x : Str) : He.DefD := ⟨(x, none), x, x, defArgs (top i), defBody (top i), defScope (top i), [], []⟩
def di (i : Nat) (x q : Str) : He.DefD := ⟨(x, some "__init__"), "__init__", q, defArgs (inClass (top i) 0), defBody (inClass (top i) 0), defScope (inClass (top i) 0), [], []⟩
def fn : List He.DefD := [dd 26 "_law_draw", dd 27 "_law_well", dd 28 "_law_one", dd 29 "_law_kinds", dd 30 "_law_by_place", dd 31 "_law_by_name", dd 32 "_law_fields", dd 33 "_law_caught", dd 34 "law",
  di 2 "NoStatement" "NoStatement.__init__", di 14 "NoState" "NoState.__init__", di 3 "NoRow" "NoRow.__init__", di 4 "NoNumber" "NoNumber.__init__", di 6 "NoFill" "NoFill.__init__", di 7 "NoPhase" "NoPhase.__init__", di 9 "NoRun" "NoRun.__init__", di 10 "NoKey" "NoKey.__init__", di 11 "NoDeed" "NoDeed.__init__", di 12 "NotNow" "NotNow.__init__", di 13 "NoDeeds" "NoDeeds.__init__", di 15 "NoMove" "NoMove.__init__", di 16 "NoHistory" "NoHistory.__init__", di 17 "NoTable" "NoTable.__init__", di 18 "TooMany" "TooMany.__init__", di 19 "NoWord" "NoWord.__init__", di 21 "NoOption" "NoOption.__init__", di 22 "NoOptions" "NoOptions.__init__", di 23 "NoText" "NoText.__init__", di 24 "NoChange" "NoChange.__init__", di 5 "NoWriter" "NoWriter.__init__", di 8 "NoRollout" "NoRollout.__init__", di 20 "NoAnswer" "NoAnswer.__init__"]
abbrev R : PySem.W.OpenRow := PySem.W.OpenLaw.row PySem.Challenge.rw_fillbehind_k05_exceptions
abbrev hk : PySem.W.Hook := VH.hookV 5 fa fn ex
def ob (s : PySem.W.SharedT) : VH.AlV := VH.obsVG 5 fa fn ex (HandSHeadRun.getT s)
theorem ob_eq (s : PySem.W.SharedT) : ob s = hk.obs s.abs := VH.obsVG_eq (HandSHeadRun.getT_eq s)
theorem run (w : World) : HandSHeadRun.RunEq R (PySem.W.view R.prog [34]) hk ob 20000 names w := by
  intro os
  kernel_rfl
end K05

set_option maxRecDepth 100000
set_option maxHeartbeats 4000000
namespace K05
open PySem PySem.Spec PyProof.Rows L2 He VH
section
variable {P : Program} {w : World} {K : PySem.W.Frag} {mg : Str → Option Value} {base : Heap} {f : Addr} {fd : FuncData}
abbrev FnI (K : PySem.W.Frag) (q : Str) (i : Nat) (f : Addr) (fd : FuncData) : Prop := FunD K "__init__" q (defArgs (inClass (top i) 0)) (defBody (inClass (top i) 0)) (defScope (inClass (top i) 0)) [] [] f fd
theorem vals_rev {vs : List V} {us : List Value} (r : Vals vs us) : Vals vs.reverse us.reverse := by
  induction r with
  | nil => exact .nil
  | cons h _ ih =>
    rw [List.reverse_cons, List.reverse_cons]
    exact ih.append (.cons h .nil)
theorem scI0 : FnScope ["self"] ["self"] (defScope (inClass (top 2) 0)) := ⟨rfl, rfl, rfl, by decide +kernel, rfl, by decide +kernel, by decide +kernel⟩
theorem okI0 (F : FnI K "NoStatement.__init__" 2 f fd) : FnOk P w K mg base CX0 1 f fd ["self"] (spIni K []) := by
  refine F.ok scI0 (fun vs H Q E h => ?_) (fun cdv A outer s H vs Q E hr h => ?_)
  · obtain ⟨a, rfl, _⟩ := ini0 h
    rfl
  refine ⟨_, PSs.nox (pss_one ps_pass), ?_⟩
  obtain ⟨a, rfl, k⟩ := ini0 h
  exact k
theorem bI0 (F : FnI K "NoStatement.__init__" 2 f fd) : KBn K fd ["self"] 1 [] (fun us _ => us) (fun vs _ => vs) := KBn.of (FunD.bindsN F fun _ _ _ _ _ _ us hl => match us, hl with | [_], _ => rfl) rfl
theorem scI1 : FnScope ["self"] ["self"] (defScope (inClass (top 14) 0)) := ⟨rfl, rfl, rfl, by decide +kernel, rfl, by decide +kernel, by decide +kernel⟩
theorem okI1 (F : FnI K "NoState.__init__" 14 f fd) : FnOk P w K mg base CX0 1 f fd ["self"] (spIni K []) := by
  refine F.ok scI1 (fun vs H Q E h => ?_) (fun cdv A outer s H vs Q E hr h => ?_)
  · obtain ⟨a, rfl, _⟩ := ini0 h
    rfl
  refine ⟨_, PSs.nox (pss_one ps_pass), ?_⟩
  obtain ⟨a, rfl, k⟩ := ini0 h
  exact k
theorem bI1 (F : FnI K "NoState.__init__" 14 f fd) : KBn K fd ["self"] 1 [] (fun us _ => us) (fun vs _ => vs) := KBn.of (FunD.bindsN F fun _ _ _ _ _ _ us hl => match us, hl with | [_], _ => rfl) rfl
theorem scI2 : FnScope ["self", "part"] ["self", "part"] (defScope (inClass (top 3) 0)) := ⟨rfl, rfl, rfl, by decide +kernel, rfl, by decide +kernel, by decide +kernel⟩
theorem okI2 (F : FnI K "NoRow.__init__" 3 f fd) : FnOk P w K mg base CX0 1 f fd ["self", "part"] (spIni K ["part"]) := by
  refine F.ok scI2 (fun vs H Q E h => ?_) (fun cdv A outer s H vs Q E hr h => ?_)
  · obtain ⟨a, C, v, rfl, _⟩ := ini1 h
    rfl
  refine ⟨_, PSs.nox (pss_one (ps_ost (pv 0) (pv 1))), ?_⟩
  obtain ⟨a, C, v, rfl, T, no, ha, k⟩ := ini1 h
  exact ⟨_, rfl, _, rfl, a, C, rfl, T, no, .inl ⟨ha, fun dx n ne => k dx n ne⟩⟩
theorem bI2 (F : FnI K "NoRow.__init__" 3 f fd) : KBn K fd ["self", "part"] 2 [] (fun us _ => us) (fun vs _ => vs) := KBn.of (FunD.bindsN F fun _ _ _ _ _ _ us hl => match us, hl with | [_, _], _ => rfl) rfl
theorem kI2 (F : FnI K "NoRow.__init__" 3 f fd) : KBn K fd ["self", "part"] 1 ["part"] (fun us ws => us ++ ws) (fun vs zs => vs ++ zs) := FunD.byName F 1 ["part"] (fun us ws => us ++ ws) (fun a b => a.append b) fun _ _ _ _ _ _ us ws l1 l2 => match us, l1, ws, l2 with | [_], _, [_], _ => rfl
theorem scI3 : FnScope ["self", "part"] ["self", "part"] (defScope (inClass (top 4) 0)) := ⟨rfl, rfl, rfl, by decide +kernel, rfl, by decide +kernel, by decide +kernel⟩
theorem okI3 (F : FnI K "NoNumber.__init__" 4 f fd) : FnOk P w K mg base CX0 1 f fd ["self", "part"] (spIni K ["part"]) := by
  refine F.ok scI3 (fun vs H Q E h => ?_) (fun cdv A outer s H vs Q E hr h => ?_)
  · obtain ⟨a, C, v, rfl, _⟩ := ini1 h
    rfl
  refine ⟨_, PSs.nox (pss_one (ps_ost (pv 0) (pv 1))), ?_⟩
  obtain ⟨a, C, v, rfl, T, no, ha, k⟩ := ini1 h
  exact ⟨_, rfl, _, rfl, a, C, rfl, T, no, .inl ⟨ha, fun dx n ne => k dx n ne⟩⟩
theorem bI3 (F : FnI K "NoNumber.__init__" 4 f fd) : KBn K fd ["self", "part"] 2 [] (fun us _ => us) (fun vs _ => vs) := KBn.of (FunD.bindsN F fun _ _ _ _ _ _ us hl => match us, hl with | [_, _], _ => rfl) rfl
theorem kI3 (F : FnI K "NoNumber.__init__" 4 f fd) : KBn K fd ["self", "part"] 1 ["part"] (fun us ws => us ++ ws) (fun vs zs => vs ++ zs) := FunD.byName F 1 ["part"] (fun us ws => us ++ ws) (fun a b => a.append b) fun _ _ _ _ _ _ us ws l1 l2 => match us, l1, ws, l2 with | [_], _, [_], _ => rfl
theorem scI4 : FnScope ["self", "part"] ["self", "part"] (defScope (inClass (top 6) 0)) := ⟨rfl, rfl, rfl, by decide +kernel, rfl, by decide +kernel, by decide +kernel⟩
theorem okI4 (F : FnI K "NoFill.__init__" 6 f fd) : FnOk P w K mg base CX0 1 f fd ["self", "part"] (spIni K ["part"]) := by
  refine F.ok scI4 (fun vs H Q E h => ?_) (fun cdv A outer s H vs Q E hr h => ?_)
  · obtain ⟨a, C, v, rfl, _⟩ := ini1 h
    rfl
  refine ⟨_, PSs.nox (pss_one (ps_ost (pv 0) (pv 1))), ?_⟩
  obtain ⟨a, C, v, rfl, T, no, ha, k⟩ := ini1 h
  exact ⟨_, rfl, _, rfl, a, C, rfl, T, no, .inl ⟨ha, fun dx n ne => k dx n ne⟩⟩
theorem bI4 (F : FnI K "NoFill.__init__" 6 f fd) : KBn K fd ["self", "part"] 2 [] (fun us _ => us) (fun vs _ => vs) := KBn.of (FunD.bindsN F fun _ _ _ _ _ _ us hl => match us, hl with | [_, _], _ => rfl) rfl
theorem kI4 (F : FnI K "NoFill.__init__" 6 f fd) : KBn K fd ["self", "part"] 1 ["part"] (fun us ws => us ++ ws) (fun vs zs => vs ++ zs) := FunD.byName F 1 ["part"] (fun us ws => us ++ ws) (fun a b => a.append b) fun _ _ _ _ _ _ us ws l1 l2 => match us, l1, ws, l2 with | [_], _, [_], _ => rfl
theorem scI5 : FnScope ["self", "part"] ["self", "part"] (defScope (inClass (top 7) 0)) := ⟨rfl, rfl, rfl, by decide +kernel, rfl, by decide +kernel, by decide +kernel⟩
theorem okI5 (F : FnI K "NoPhase.__init__" 7 f fd) : FnOk P w K mg base CX0 1 f fd ["self", "part"] (spIni K ["part"]) := by
  refine F.ok scI5 (fun vs H Q E h => ?_) (fun cdv A outer s H vs Q E hr h => ?_)
  · obtain ⟨a, C, v, rfl, _⟩ := ini1 h
    rfl
  refine ⟨_, PSs.nox (pss_one (ps_ost (pv 0) (pv 1))), ?_⟩
  obtain ⟨a, C, v, rfl, T, no, ha, k⟩ := ini1 h
  exact ⟨_, rfl, _, rfl, a, C, rfl, T, no, .inl ⟨ha, fun dx n ne => k dx n ne⟩⟩
theorem bI5 (F : FnI K "NoPhase.__init__" 7 f fd) : KBn K fd ["self", "part"] 2 [] (fun us _ => us) (fun vs _ => vs) := KBn.of (FunD.bindsN F fun _ _ _ _ _ _ us hl => match us, hl with | [_, _], _ => rfl) rfl
theorem kI5 (F : FnI K "NoPhase.__init__" 7 f fd) : KBn K fd ["self", "part"] 1 ["part"] (fun us ws => us ++ ws) (fun vs zs => vs ++ zs) := FunD.byName F 1 ["part"] (fun us ws => us ++ ws) (fun a b => a.append b) fun _ _ _ _ _ _ us ws l1 l2 => match us, l1, ws, l2 with | [_], _, [_], _ => rfl
theorem scI6 : FnScope ["self", "part"] ["self", "part"] (defScope (inClass (top 9) 0)) := ⟨rfl, rfl, rfl, by decide +kernel, rfl, by decide +kernel, by decide +kernel⟩
theorem okI6 (F : FnI K "NoRun.__init__" 9 f fd) : FnOk P w K mg base CX0 1 f fd ["self", "part"] (spIni K ["part"]) := by
  refine F.ok scI6 (fun vs H Q E h => ?_) (fun cdv A outer s H vs Q E hr h => ?_)
  · obtain ⟨a, C, v, rfl, _⟩ := ini1 h
    rfl
  refine ⟨_, PSs.nox (pss_one (ps_ost (pv 0) (pv 1))), ?_⟩
  obtain ⟨a, C, v, rfl, T, no, ha, k⟩ := ini1 h
  exact ⟨_, rfl, _, rfl, a, C, rfl, T, no, .inl ⟨ha, fun dx n ne => k dx n ne⟩⟩
theorem bI6 (F : FnI K "NoRun.__init__" 9 f fd) : KBn K fd ["self", "part"] 2 [] (fun us _ => us) (fun vs _ => vs) := KBn.of (FunD.bindsN F fun _ _ _ _ _ _ us hl => match us, hl with | [_, _], _ => rfl) rfl
theorem kI6 (F : FnI K "NoRun.__init__" 9 f fd) : KBn K fd ["self", "part"] 1 ["part"] (fun us ws => us ++ ws) (fun vs zs => vs ++ zs) := FunD.byName F 1 ["part"] (fun us ws => us ++ ws) (fun a b => a.append b) fun _ _ _ _ _ _ us ws l1 l2 => match us, l1, ws, l2 with | [_], _, [_], _ => rfl
theorem scI7 : FnScope ["self", "key"] ["self", "key"] (defScope (inClass (top 10) 0)) := ⟨rfl, rfl, rfl, by decide +kernel, rfl, by decide +kernel, by decide +kernel⟩
theorem okI7 (F : FnI K "NoKey.__init__" 10 f fd) : FnOk P w K mg base CX0 1 f fd ["self", "key"] (spIni K ["key"]) := by
  refine F.ok scI7 (fun vs H Q E h => ?_) (fun cdv A outer s H vs Q E hr h => ?_)
  · obtain ⟨a, C, v, rfl, _⟩ := ini1 h
    rfl
  refine ⟨_, PSs.nox (pss_one (ps_ost (pv 0) (pv 1))), ?_⟩
  obtain ⟨a, C, v, rfl, T, no, ha, k⟩ := ini1 h
  exact ⟨_, rfl, _, rfl, a, C, rfl, T, no, .inl ⟨ha, fun dx n ne => k dx n ne⟩⟩
theorem bI7 (F : FnI K "NoKey.__init__" 10 f fd) : KBn K fd ["self", "key"] 2 [] (fun us _ => us) (fun vs _ => vs) := KBn.of (FunD.bindsN F fun _ _ _ _ _ _ us hl => match us, hl with | [_, _], _ => rfl) rfl
theorem kI7 (F : FnI K "NoKey.__init__" 10 f fd) : KBn K fd ["self", "key"] 1 ["key"] (fun us ws => us ++ ws) (fun vs zs => vs ++ zs) := FunD.byName F 1 ["key"] (fun us ws => us ++ ws) (fun a b => a.append b) fun _ _ _ _ _ _ us ws l1 l2 => match us, l1, ws, l2 with | [_], _, [_], _ => rfl
theorem scI8 : FnScope ["self", "deed"] ["self", "deed"] (defScope (inClass (top 11) 0)) := ⟨rfl, rfl, rfl, by decide +kernel, rfl, by decide +kernel, by decide +kernel⟩
theorem okI8 (F : FnI K "NoDeed.__init__" 11 f fd) : FnOk P w K mg base CX0 1 f fd ["self", "deed"] (spIni K ["deed"]) := by
  refine F.ok scI8 (fun vs H Q E h => ?_) (fun cdv A outer s H vs Q E hr h => ?_)
  · obtain ⟨a, C, v, rfl, _⟩ := ini1 h
    rfl
  refine ⟨_, PSs.nox (pss_one (ps_ost (pv 0) (pv 1))), ?_⟩
  obtain ⟨a, C, v, rfl, T, no, ha, k⟩ := ini1 h
  exact ⟨_, rfl, _, rfl, a, C, rfl, T, no, .inl ⟨ha, fun dx n ne => k dx n ne⟩⟩
theorem bI8 (F : FnI K "NoDeed.__init__" 11 f fd) : KBn K fd ["self", "deed"] 2 [] (fun us _ => us) (fun vs _ => vs) := KBn.of (FunD.bindsN F fun _ _ _ _ _ _ us hl => match us, hl with | [_, _], _ => rfl) rfl
theorem kI8 (F : FnI K "NoDeed.__init__" 11 f fd) : KBn K fd ["self", "deed"] 1 ["deed"] (fun us ws => us ++ ws) (fun vs zs => vs ++ zs) := FunD.byName F 1 ["deed"] (fun us ws => us ++ ws) (fun a b => a.append b) fun _ _ _ _ _ _ us ws l1 l2 => match us, l1, ws, l2 with | [_], _, [_], _ => rfl
theorem scI9 : FnScope ["self", "word"] ["self", "word"] (defScope (inClass (top 12) 0)) := ⟨rfl, rfl, rfl, by decide +kernel, rfl, by decide +kernel, by decide +kernel⟩
theorem okI9 (F : FnI K "NotNow.__init__" 12 f fd) : FnOk P w K mg base CX0 1 f fd ["self", "word"] (spIni K ["word"]) := by
  refine F.ok scI9 (fun vs H Q E h => ?_) (fun cdv A outer s H vs Q E hr h => ?_)
  · obtain ⟨a, C, v, rfl, _⟩ := ini1 h
    rfl
  refine ⟨_, PSs.nox (pss_one (ps_ost (pv 0) (pv 1))), ?_⟩
  obtain ⟨a, C, v, rfl, T, no, ha, k⟩ := ini1 h
  exact ⟨_, rfl, _, rfl, a, C, rfl, T, no, .inl ⟨ha, fun dx n ne => k dx n ne⟩⟩
theorem bI9 (F : FnI K "NotNow.__init__" 12 f fd) : KBn K fd ["self", "word"] 2 [] (fun us _ => us) (fun vs _ => vs) := KBn.of (FunD.bindsN F fun _ _ _ _ _ _ us hl => match us, hl with | [_, _], _ => rfl) rfl
theorem kI9 (F : FnI K "NotNow.__init__" 12 f fd) : KBn K fd ["self", "word"] 1 ["word"] (fun us ws => us ++ ws) (fun vs zs => vs ++ zs) := FunD.byName F 1 ["word"] (fun us ws => us ++ ws) (fun a b => a.append b) fun _ _ _ _ _ _ us ws l1 l2 => match us, l1, ws, l2 with | [_], _, [_], _ => rfl
theorem scI10 : FnScope ["self", "index"] ["self", "index"] (defScope (inClass (top 13) 0)) := ⟨rfl, rfl, rfl, by decide +kernel, rfl, by decide +kernel, by decide +kernel⟩
theorem okI10 (F : FnI K "NoDeeds.__init__" 13 f fd) : FnOk P w K mg base CX0 1 f fd ["self", "index"] (spIni K ["index"]) := by
  refine F.ok scI10 (fun vs H Q E h => ?_) (fun cdv A outer s H vs Q E hr h => ?_)
  · obtain ⟨a, C, v, rfl, _⟩ := ini1 h
    rfl
  refine ⟨_, PSs.nox (pss_one (ps_ost (pv 0) (pv 1))), ?_⟩
  obtain ⟨a, C, v, rfl, T, no, ha, k⟩ := ini1 h
  exact ⟨_, rfl, _, rfl, a, C, rfl, T, no, .inl ⟨ha, fun dx n ne => k dx n ne⟩⟩
theorem bI10 (F : FnI K "NoDeeds.__init__" 13 f fd) : KBn K fd ["self", "index"] 2 [] (fun us _ => us) (fun vs _ => vs) := KBn.of (FunD.bindsN F fun _ _ _ _ _ _ us hl => match us, hl with | [_, _], _ => rfl) rfl
theorem kI10 (F : FnI K "NoDeeds.__init__" 13 f fd) : KBn K fd ["self", "index"] 1 ["index"] (fun us ws => us ++ ws) (fun vs zs => vs ++ zs) := FunD.byName F 1 ["index"] (fun us ws => us ++ ws) (fun a b => a.append b) fun _ _ _ _ _ _ us ws l1 l2 => match us, l1, ws, l2 with | [_], _, [_], _ => rfl
theorem scI11 : FnScope ["self", "deed"] ["self", "deed"] (defScope (inClass (top 15) 0)) := ⟨rfl, rfl, rfl, by decide +kernel, rfl, by decide +kernel, by decide +kernel⟩
theorem okI11 (F : FnI K "NoMove.__init__" 15 f fd) : FnOk P w K mg base CX0 1 f fd ["self", "deed"] (spIni K ["deed"]) := by
  refine F.ok scI11 (fun vs H Q E h => ?_) (fun cdv A outer s H vs Q E hr h => ?_)
  · obtain ⟨a, C, v, rfl, _⟩ := ini1 h
    rfl
  refine ⟨_, PSs.nox (pss_one (ps_ost (pv 0) (pv 1))), ?_⟩
  obtain ⟨a, C, v, rfl, T, no, ha, k⟩ := ini1 h
  exact ⟨_, rfl, _, rfl, a, C, rfl, T, no, .inl ⟨ha, fun dx n ne => k dx n ne⟩⟩
theorem bI11 (F : FnI K "NoMove.__init__" 15 f fd) : KBn K fd ["self", "deed"] 2 [] (fun us _ => us) (fun vs _ => vs) := KBn.of (FunD.bindsN F fun _ _ _ _ _ _ us hl => match us, hl with | [_, _], _ => rfl) rfl
theorem kI11 (F : FnI K "NoMove.__init__" 15 f fd) : KBn K fd ["self", "deed"] 1 ["deed"] (fun us ws => us ++ ws) (fun vs zs => vs ++ zs) := FunD.byName F 1 ["deed"] (fun us ws => us ++ ws) (fun a b => a.append b) fun _ _ _ _ _ _ us ws l1 l2 => match us, l1, ws, l2 with | [_], _, [_], _ => rfl
theorem scI12 : FnScope ["self", "index"] ["self", "index"] (defScope (inClass (top 16) 0)) := ⟨rfl, rfl, rfl, by decide +kernel, rfl, by decide +kernel, by decide +kernel⟩
theorem okI12 (F : FnI K "NoHistory.__init__" 16 f fd) : FnOk P w K mg base CX0 1 f fd ["self", "index"] (spIni K ["index"]) := by
  refine F.ok scI12 (fun vs H Q E h => ?_) (fun cdv A outer s H vs Q E hr h => ?_)
  · obtain ⟨a, C, v, rfl, _⟩ := ini1 h
    rfl
  refine ⟨_, PSs.nox (pss_one (ps_ost (pv 0) (pv 1))), ?_⟩
  obtain ⟨a, C, v, rfl, T, no, ha, k⟩ := ini1 h
  exact ⟨_, rfl, _, rfl, a, C, rfl, T, no, .inl ⟨ha, fun dx n ne => k dx n ne⟩⟩
theorem bI12 (F : FnI K "NoHistory.__init__" 16 f fd) : KBn K fd ["self", "index"] 2 [] (fun us _ => us) (fun vs _ => vs) := KBn.of (FunD.bindsN F fun _ _ _ _ _ _ us hl => match us, hl with | [_, _], _ => rfl) rfl
theorem kI12 (F : FnI K "NoHistory.__init__" 16 f fd) : KBn K fd ["self", "index"] 1 ["index"] (fun us ws => us ++ ws) (fun vs zs => vs ++ zs) := FunD.byName F 1 ["index"] (fun us ws => us ++ ws) (fun a b => a.append b) fun _ _ _ _ _ _ us ws l1 l2 => match us, l1, ws, l2 with | [_], _, [_], _ => rfl
theorem scI13 : FnScope ["self", "index"] ["self", "index"] (defScope (inClass (top 17) 0)) := ⟨rfl, rfl, rfl, by decide +kernel, rfl, by decide +kernel, by decide +kernel⟩
theorem okI13 (F : FnI K "NoTable.__init__" 17 f fd) : FnOk P w K mg base CX0 1 f fd ["self", "index"] (spIni K ["index"]) := by
  refine F.ok scI13 (fun vs H Q E h => ?_) (fun cdv A outer s H vs Q E hr h => ?_)
  · obtain ⟨a, C, v, rfl, _⟩ := ini1 h
    rfl
  refine ⟨_, PSs.nox (pss_one (ps_ost (pv 0) (pv 1))), ?_⟩
  obtain ⟨a, C, v, rfl, T, no, ha, k⟩ := ini1 h
  exact ⟨_, rfl, _, rfl, a, C, rfl, T, no, .inl ⟨ha, fun dx n ne => k dx n ne⟩⟩
theorem bI13 (F : FnI K "NoTable.__init__" 17 f fd) : KBn K fd ["self", "index"] 2 [] (fun us _ => us) (fun vs _ => vs) := KBn.of (FunD.bindsN F fun _ _ _ _ _ _ us hl => match us, hl with | [_, _], _ => rfl) rfl
theorem kI13 (F : FnI K "NoTable.__init__" 17 f fd) : KBn K fd ["self", "index"] 1 ["index"] (fun us ws => us ++ ws) (fun vs zs => vs ++ zs) := FunD.byName F 1 ["index"] (fun us ws => us ++ ws) (fun a b => a.append b) fun _ _ _ _ _ _ us ws l1 l2 => match us, l1, ws, l2 with | [_], _, [_], _ => rfl
theorem scI14 : FnScope ["self", "most"] ["self", "most"] (defScope (inClass (top 18) 0)) := ⟨rfl, rfl, rfl, by decide +kernel, rfl, by decide +kernel, by decide +kernel⟩
theorem okI14 (F : FnI K "TooMany.__init__" 18 f fd) : FnOk P w K mg base CX0 1 f fd ["self", "most"] (spIni K ["most"]) := by
  refine F.ok scI14 (fun vs H Q E h => ?_) (fun cdv A outer s H vs Q E hr h => ?_)
  · obtain ⟨a, C, v, rfl, _⟩ := ini1 h
    rfl
  refine ⟨_, PSs.nox (pss_one (ps_ost (pv 0) (pv 1))), ?_⟩
  obtain ⟨a, C, v, rfl, T, no, ha, k⟩ := ini1 h
  exact ⟨_, rfl, _, rfl, a, C, rfl, T, no, .inl ⟨ha, fun dx n ne => k dx n ne⟩⟩
theorem bI14 (F : FnI K "TooMany.__init__" 18 f fd) : KBn K fd ["self", "most"] 2 [] (fun us _ => us) (fun vs _ => vs) := KBn.of (FunD.bindsN F fun _ _ _ _ _ _ us hl => match us, hl with | [_, _], _ => rfl) rfl
theorem kI14 (F : FnI K "TooMany.__init__" 18 f fd) : KBn K fd ["self", "most"] 1 ["most"] (fun us ws => us ++ ws) (fun vs zs => vs ++ zs) := FunD.byName F 1 ["most"] (fun us ws => us ++ ws) (fun a b => a.append b) fun _ _ _ _ _ _ us ws l1 l2 => match us, l1, ws, l2 with | [_], _, [_], _ => rfl
theorem scI15 : FnScope ["self", "word"] ["self", "word"] (defScope (inClass (top 19) 0)) := ⟨rfl, rfl, rfl, by decide +kernel, rfl, by decide +kernel, by decide +kernel⟩
theorem okI15 (F : FnI K "NoWord.__init__" 19 f fd) : FnOk P w K mg base CX0 1 f fd ["self", "word"] (spIni K ["word"]) := by
  refine F.ok scI15 (fun vs H Q E h => ?_) (fun cdv A outer s H vs Q E hr h => ?_)
  · obtain ⟨a, C, v, rfl, _⟩ := ini1 h
    rfl
  refine ⟨_, PSs.nox (pss_one (ps_ost (pv 0) (pv 1))), ?_⟩
  obtain ⟨a, C, v, rfl, T, no, ha, k⟩ := ini1 h
  exact ⟨_, rfl, _, rfl, a, C, rfl, T, no, .inl ⟨ha, fun dx n ne => k dx n ne⟩⟩
theorem bI15 (F : FnI K "NoWord.__init__" 19 f fd) : KBn K fd ["self", "word"] 2 [] (fun us _ => us) (fun vs _ => vs) := KBn.of (FunD.bindsN F fun _ _ _ _ _ _ us hl => match us, hl with | [_, _], _ => rfl) rfl
theorem kI15 (F : FnI K "NoWord.__init__" 19 f fd) : KBn K fd ["self", "word"] 1 ["word"] (fun us ws => us ++ ws) (fun vs zs => vs ++ zs) := FunD.byName F 1 ["word"] (fun us ws => us ++ ws) (fun a b => a.append b) fun _ _ _ _ _ _ us ws l1 l2 => match us, l1, ws, l2 with | [_], _, [_], _ => rfl
theorem scI16 : FnScope ["self", "option"] ["self", "option"] (defScope (inClass (top 21) 0)) := ⟨rfl, rfl, rfl, by decide +kernel, rfl, by decide +kernel, by decide +kernel⟩
theorem okI16 (F : FnI K "NoOption.__init__" 21 f fd) : FnOk P w K mg base CX0 1 f fd ["self", "option"] (spIni K ["option"]) := by
  refine F.ok scI16 (fun vs H Q E h => ?_) (fun cdv A outer s H vs Q E hr h => ?_)
  · obtain ⟨a, C, v, rfl, _⟩ := ini1 h
    rfl
  refine ⟨_, PSs.nox (pss_one (ps_ost (pv 0) (pv 1))), ?_⟩
  obtain ⟨a, C, v, rfl, T, no, ha, k⟩ := ini1 h
  exact ⟨_, rfl, _, rfl, a, C, rfl, T, no, .inl ⟨ha, fun dx n ne => k dx n ne⟩⟩
theorem bI16 (F : FnI K "NoOption.__init__" 21 f fd) : KBn K fd ["self", "option"] 2 [] (fun us _ => us) (fun vs _ => vs) := KBn.of (FunD.bindsN F fun _ _ _ _ _ _ us hl => match us, hl with | [_, _], _ => rfl) rfl
theorem kI16 (F : FnI K "NoOption.__init__" 21 f fd) : KBn K fd ["self", "option"] 1 ["option"] (fun us ws => us ++ ws) (fun vs zs => vs ++ zs) := FunD.byName F 1 ["option"] (fun us ws => us ++ ws) (fun a b => a.append b) fun _ _ _ _ _ _ us ws l1 l2 => match us, l1, ws, l2 with | [_], _, [_], _ => rfl
theorem scI17 : FnScope ["self", "index"] ["self", "index"] (defScope (inClass (top 22) 0)) := ⟨rfl, rfl, rfl, by decide +kernel, rfl, by decide +kernel, by decide +kernel⟩
theorem okI17 (F : FnI K "NoOptions.__init__" 22 f fd) : FnOk P w K mg base CX0 1 f fd ["self", "index"] (spIni K ["index"]) := by
  refine F.ok scI17 (fun vs H Q E h => ?_) (fun cdv A outer s H vs Q E hr h => ?_)
  · obtain ⟨a, C, v, rfl, _⟩ := ini1 h
    rfl
  refine ⟨_, PSs.nox (pss_one (ps_ost (pv 0) (pv 1))), ?_⟩
  obtain ⟨a, C, v, rfl, T, no, ha, k⟩ := ini1 h
  exact ⟨_, rfl, _, rfl, a, C, rfl, T, no, .inl ⟨ha, fun dx n ne => k dx n ne⟩⟩
theorem bI17 (F : FnI K "NoOptions.__init__" 22 f fd) : KBn K fd ["self", "index"] 2 [] (fun us _ => us) (fun vs _ => vs) := KBn.of (FunD.bindsN F fun _ _ _ _ _ _ us hl => match us, hl with | [_, _], _ => rfl) rfl
theorem kI17 (F : FnI K "NoOptions.__init__" 22 f fd) : KBn K fd ["self", "index"] 1 ["index"] (fun us ws => us ++ ws) (fun vs zs => vs ++ zs) := FunD.byName F 1 ["index"] (fun us ws => us ++ ws) (fun a b => a.append b) fun _ _ _ _ _ _ us ws l1 l2 => match us, l1, ws, l2 with | [_], _, [_], _ => rfl
theorem scI18 : FnScope ["self", "line"] ["self", "line"] (defScope (inClass (top 23) 0)) := ⟨rfl, rfl, rfl, by decide +kernel, rfl, by decide +kernel, by decide +kernel⟩
theorem okI18 (F : FnI K "NoText.__init__" 23 f fd) : FnOk P w K mg base CX0 1 f fd ["self", "line"] (spIni K ["line"]) := by
  refine F.ok scI18 (fun vs H Q E h => ?_) (fun cdv A outer s H vs Q E hr h => ?_)
  · obtain ⟨a, C, v, rfl, _⟩ := ini1 h
    rfl
  refine ⟨_, PSs.nox (pss_one (ps_ost (pv 0) (pv 1))), ?_⟩
  obtain ⟨a, C, v, rfl, T, no, ha, k⟩ := ini1 h
  exact ⟨_, rfl, _, rfl, a, C, rfl, T, no, .inl ⟨ha, fun dx n ne => k dx n ne⟩⟩
theorem bI18 (F : FnI K "NoText.__init__" 23 f fd) : KBn K fd ["self", "line"] 2 [] (fun us _ => us) (fun vs _ => vs) := KBn.of (FunD.bindsN F fun _ _ _ _ _ _ us hl => match us, hl with | [_, _], _ => rfl) rfl
theorem kI18 (F : FnI K "NoText.__init__" 23 f fd) : KBn K fd ["self", "line"] 1 ["line"] (fun us ws => us ++ ws) (fun vs zs => vs ++ zs) := FunD.byName F 1 ["line"] (fun us ws => us ++ ws) (fun a b => a.append b) fun _ _ _ _ _ _ us ws l1 l2 => match us, l1, ws, l2 with | [_], _, [_], _ => rfl
theorem scI19 : FnScope ["self", "word"] ["self", "word"] (defScope (inClass (top 24) 0)) := ⟨rfl, rfl, rfl, by decide +kernel, rfl, by decide +kernel, by decide +kernel⟩
theorem okI19 (F : FnI K "NoChange.__init__" 24 f fd) : FnOk P w K mg base CX0 1 f fd ["self", "word"] (spIni K ["word"]) := by
  refine F.ok scI19 (fun vs H Q E h => ?_) (fun cdv A outer s H vs Q E hr h => ?_)
  · obtain ⟨a, C, v, rfl, _⟩ := ini1 h
    rfl
  refine ⟨_, PSs.nox (pss_one (ps_ost (pv 0) (pv 1))), ?_⟩
  obtain ⟨a, C, v, rfl, T, no, ha, k⟩ := ini1 h
  exact ⟨_, rfl, _, rfl, a, C, rfl, T, no, .inl ⟨ha, fun dx n ne => k dx n ne⟩⟩
theorem bI19 (F : FnI K "NoChange.__init__" 24 f fd) : KBn K fd ["self", "word"] 2 [] (fun us _ => us) (fun vs _ => vs) := KBn.of (FunD.bindsN F fun _ _ _ _ _ _ us hl => match us, hl with | [_, _], _ => rfl) rfl
theorem kI19 (F : FnI K "NoChange.__init__" 24 f fd) : KBn K fd ["self", "word"] 1 ["word"] (fun us ws => us ++ ws) (fun vs zs => vs ++ zs) := FunD.byName F 1 ["word"] (fun us ws => us ++ ws) (fun a b => a.append b) fun _ _ _ _ _ _ us ws l1 l2 => match us, l1, ws, l2 with | [_], _, [_], _ => rfl
theorem scI20 : FnScope ["self", "part", "index"] ["self", "part", "index"] (defScope (inClass (top 5) 0)) := ⟨rfl, rfl, rfl, by decide +kernel, rfl, by decide +kernel, by decide +kernel⟩
theorem okI20 (F : FnI K "NoWriter.__init__" 5 f fd) : FnOk P w K mg base CX0 1 f fd ["self", "part", "index"] (spIni K ["part", "index"]) := by
  refine F.ok scI20 (fun vs H Q E h => ?_) (fun cdv A outer s H vs Q E hr h => ?_)
  · obtain ⟨a, C, v, u, rfl, _⟩ := ini2 h
    rfl
  refine ⟨_, PSs.nox (pss_cons (ps_ost (pv 0) (pv 1)) (pss_one (ps_ost (pv 0) (pv 2)))), ?_⟩
  obtain ⟨a, C, v, u, rfl, T, no, no2, ha, k⟩ := ini2 h
  refine ⟨_, rfl, _, rfl, a, C, rfl, T, no, .inl ⟨ha, fun dx n ne => ?_⟩⟩
  exact ⟨_, rfl, _, rfl, a, C, rfl, T, no2, .inr ⟨dx, _, upd_same, (upd_ne ne).trans upd_same, (show 1 ≤ 900 by decide), k dx n ne⟩⟩
theorem bI20 (F : FnI K "NoWriter.__init__" 5 f fd) : KBn K fd ["self", "part", "index"] 3 [] (fun us _ => us) (fun vs _ => vs) := KBn.of (FunD.bindsN F fun _ _ _ _ _ _ us hl => match us, hl with | [_, _, _], _ => rfl) rfl
theorem kI20 (F : FnI K "NoWriter.__init__" 5 f fd) : KBn K fd ["self", "part", "index"] 1 ["index", "part"] (fun us ws => us ++ ws.reverse) (fun vs zs => vs ++ zs.reverse) := FunD.byName F 1 ["index", "part"] (fun us ws => us ++ ws.reverse) (fun a b => a.append (vals_rev b)) fun _ _ _ _ _ _ us ws l1 l2 => match us, l1, ws, l2 with | [_], _, [_, _], _ => rfl
theorem scI21 : FnScope ["self", "part", "index"] ["self", "part", "index"] (defScope (inClass (top 8) 0)) := ⟨rfl, rfl, rfl, by decide +kernel, rfl, by decide +kernel, by decide +kernel⟩
theorem okI21 (F : FnI K "NoRollout.__init__" 8 f fd) : FnOk P w K mg base CX0 1 f fd ["self", "part", "index"] (spIni K ["part", "index"]) := by
  refine F.ok scI21 (fun vs H Q E h => ?_) (fun cdv A outer s H vs Q E hr h => ?_)
  · obtain ⟨a, C, v, u, rfl, _⟩ := ini2 h
    rfl
  refine ⟨_, PSs.nox (pss_cons (ps_ost (pv 0) (pv 1)) (pss_one (ps_ost (pv 0) (pv 2)))), ?_⟩
  obtain ⟨a, C, v, u, rfl, T, no, no2, ha, k⟩ := ini2 h
  refine ⟨_, rfl, _, rfl, a, C, rfl, T, no, .inl ⟨ha, fun dx n ne => ?_⟩⟩
  exact ⟨_, rfl, _, rfl, a, C, rfl, T, no2, .inr ⟨dx, _, upd_same, (upd_ne ne).trans upd_same, (show 1 ≤ 900 by decide), k dx n ne⟩⟩
theorem bI21 (F : FnI K "NoRollout.__init__" 8 f fd) : KBn K fd ["self", "part", "index"] 3 [] (fun us _ => us) (fun vs _ => vs) := KBn.of (FunD.bindsN F fun _ _ _ _ _ _ us hl => match us, hl with | [_, _, _], _ => rfl) rfl
theorem kI21 (F : FnI K "NoRollout.__init__" 8 f fd) : KBn K fd ["self", "part", "index"] 1 ["index", "part"] (fun us ws => us ++ ws.reverse) (fun vs zs => vs ++ zs.reverse) := FunD.byName F 1 ["index", "part"] (fun us ws => us ++ ws.reverse) (fun a b => a.append (vals_rev b)) fun _ _ _ _ _ _ us ws l1 l2 => match us, l1, ws, l2 with | [_], _, [_, _], _ => rfl
theorem scI22 : FnScope ["self", "part", "index"] ["self", "part", "index"] (defScope (inClass (top 20) 0)) := ⟨rfl, rfl, rfl, by decide +kernel, rfl, by decide +kernel, by decide +kernel⟩
theorem okI22 (F : FnI K "NoAnswer.__init__" 20 f fd) : FnOk P w K mg base CX0 1 f fd ["self", "part", "index"] (spIni K ["part", "index"]) := by
  refine F.ok scI22 (fun vs H Q E h => ?_) (fun cdv A outer s H vs Q E hr h => ?_)
  · obtain ⟨a, C, v, u, rfl, _⟩ := ini2 h
    rfl
  refine ⟨_, PSs.nox (pss_cons (ps_ost (pv 0) (pv 1)) (pss_one (ps_ost (pv 0) (pv 2)))), ?_⟩
  obtain ⟨a, C, v, u, rfl, T, no, no2, ha, k⟩ := ini2 h
  refine ⟨_, rfl, _, rfl, a, C, rfl, T, no, .inl ⟨ha, fun dx n ne => ?_⟩⟩
  exact ⟨_, rfl, _, rfl, a, C, rfl, T, no2, .inr ⟨dx, _, upd_same, (upd_ne ne).trans upd_same, (show 1 ≤ 900 by decide), k dx n ne⟩⟩
theorem bI22 (F : FnI K "NoAnswer.__init__" 20 f fd) : KBn K fd ["self", "part", "index"] 3 [] (fun us _ => us) (fun vs _ => vs) := KBn.of (FunD.bindsN F fun _ _ _ _ _ _ us hl => match us, hl with | [_, _, _], _ => rfl) rfl
theorem kI22 (F : FnI K "NoAnswer.__init__" 20 f fd) : KBn K fd ["self", "part", "index"] 1 ["index", "part"] (fun us ws => us ++ ws.reverse) (fun vs zs => vs ++ zs.reverse) := FunD.byName F 1 ["index", "part"] (fun us ws => us ++ ws.reverse) (fun a b => a.append (vals_rev b)) fun _ _ _ _ _ _ us ws l1 l2 => match us, l1, ws, l2 with | [_], _, [_, _], _ => rfl
end
end K05

set_option maxRecDepth 100000
set_option maxHeartbeats 4000000
namespace K05
open PySem PySem.Spec PyProof.Rows L2 He VH
/-- what the written part says -/
structure Txt (K : PySem.W.Frag) (mg : Str → Option Value) : Prop where
  cl : ∀ (i : Nat) (c : Str × List Str), cls[i]? = some c → ClOk K c.1 c.2
  mc : ∀ (i : Nat) (c : Str × List Str), cls[i]? = some c → mg c.1 = some (.ref (ga K c.1))
  ec : ∀ (i : Nat) (c : Str × List Str), cls[i]? = some c → ExcC K (ga K c.1)
  kit : ∀ i j : Nat, i < 23 → j < 23 → PySem.W.kitOne K (.ref (ga K (nmC i))) (.ref (ga K (nmC j))) = some (i == j)
  kf : ∀ (i : Nat) (c : Str × List Str), cls[i]? = some c → PySem.W.kitOne K (.ref (ga K c.1)) (.ref (ga K "FillError")) = some true
  kv : ∀ (i : Nat) (c : Str × List Str), cls[i]? = some c → PySem.W.kitOne K (.ref (ga K c.1)) (.type "ValueError") = some true
  xm : ∀ i j : Nat, i ∈ ([2, 9, 22] : List Nat) → j ∈ ([2, 9] : List Nat) → PySem.W.exmOne K (.ref (ga K (nmC i))) (.ref (ga K (nmC j))) = some (i == j)
  xf : ∀ i : Nat, i ∈ ([2, 9, 22] : List Nat) → PySem.W.exmOne K (.ref (ga K (nmC i))) (.ref (ga K "FillError")) = some true
  kn : PySem.W.kitOne K (.type "ValueError") (.ref (ga K "FillError")) = some false
  mF : mg "FillError" = some (.ref (ga K "FillError"))
  gI : mg "int" = none
  gL : mg "len" = none
  gR : mg "range" = none
  gE : mg "enumerate" = none
  gS : mg "isinstance" = none
  gV : mg "ValueError" = none
theorem txt_of {K : PySem.W.Frag} {h : Heap} {mg : Str → Option Value} (X : K.In h) (G : h.Ns mainGlobals mg) (c : SaysV fa fn ex K) : Txt K mg := by
  obtain ⟨c, e⟩ := c
  unfold ex at e
  obtain ⟨e1, e⟩ := ba e
  obtain ⟨e, e6⟩ := ba e
  obtain ⟨e2, e4⟩ := ba e
  obtain ⟨e2, e3⟩ := ba e2
  obtain ⟨e4, e5⟩ := ba e4
  obtain ⟨e1, e7⟩ := ba e1
  unfold dcB at e1
  obtain ⟨d1, d2⟩ := ba e1
  have cl : ∀ (i : Nat) (c : Str × List Str), cls[i]? = some c → ClOk K c.1 c.2 := fun i c z => clB_ok (List.all_eq_true.mp e2 c (List.mem_of_getElem? z))
  refine ⟨cl, fun i c z => PySem.W.mg_of X G (cl i c z).gl, fun i c z => (cl i c z).ec (of_decide_eq_true d1) (of_decide_eq_true d2), fun i j hi hj => ?_, fun i c z => of_decide_eq_true (List.all_eq_true.mp e4 c (List.mem_of_getElem? z)),
    fun i c z => of_decide_eq_true (List.all_eq_true.mp e5 c (List.mem_of_getElem? z)),
    fun i j hi hj => of_decide_eq_true (List.all_eq_true.mp (ba (List.all_eq_true.mp e6 i hi)).1 j hj), fun i hi => of_decide_eq_true (ba (List.all_eq_true.mp e6 i hi)).2, of_decide_eq_true e7, glo_ok X G (c.fact 0), free_ok X G (c.fact 11), free_ok X G (c.fact 10), free_ok X G (c.fact 12), free_ok X G (c.fact 13), free_ok X G (c.fact 14), free_ok X G (c.fact 15)⟩
  exact of_decide_eq_true (List.all_eq_true.mp (List.all_eq_true.mp e3 i (List.mem_range.mpr hi)) j (List.mem_range.mpr hj))
end K05

set_option maxRecDepth 100000
set_option maxHeartbeats 4000000
namespace K05
open PySem PySem.Spec PyProof.Rows L2 He VH
abbrev FnP (K : PySem.W.Frag) (x : Str) (st : Stmt) (f : Addr) (fd : FuncData) : Prop := FunD K x x (defArgs st) (defBody st) (defScope st) [] [] f fd
abbrev sDraw : Stmt := top 26
abbrev nDraw : List Str := ["_law_well_here", "_law_much", "_law_digit", "_law_blend"]
section
variable {P : Program} {w : World} {K : PySem.W.Frag} {mg : Str → Option Value} {base : Heap} {f : Addr} {fd : FuncData}
theorem scDraw : FnScope nDraw ["_law_well_here", "_law_much"] (defScope sDraw) := ⟨rfl, rfl, rfl, by decide +kernel, rfl, by decide +kernel, by decide +kernel⟩
theorem ok_draw (F : FnP K "_law_draw" sDraw f fd) (gI : mg "int" = none) : FnOk P w K mg base CX0 1 f fd ["_law_well_here", "_law_much"] spDraw := by
  refine F.ok scDraw (fun vs H Q E h => ?_) (fun cdv A outer s H vs Q E hr h => ?_)
  · obtain ⟨a, m, rfl, _⟩ := h
    rfl
  refine ⟨_, PSs.nox (pss_cons (ps_if (pt_cmpR op_gt (pe_ix ix_list (pv 0) pe_int (fun _ _ => rfl)) pe_int (nomark _))
      (pss_cons (ps_set (i := 2) scDraw.nd rfl (Or.inl rfl) (pe_op op_modN (pe_callTy call_int1 (by rfl) gI boot_int (pa_cons (pe_ix ix_list (pv 0) pe_int (fun _ _ => rfl)) pa_nil)) (pv 1)))
      (pss_cons (ps_asg (pe_op op_fdivN (pe_ix ix_list (pv 0) pe_int (fun _ _ => rfl)) (pv 1)) (pg_sub (pv 0) pe_int set_list))
      (pss_one (ps_ret (pv 2))))) pss_nil)
      (pss_cons (ps_asg (pe_op op_add (pe_ix ix_list (pv 0) pe_int (fun _ _ => rfl)) pe_int) (pg_sub (pv 0) pe_int set_list))
      (pss_cons (ps_set (i := 3) scDraw.nd rfl (Or.inl rfl) (pe_op op_modN (pe_callTy call_int1 (by rfl) gI boot_int (pa_cons (pe_op op_mul (pe_op op_add (pe_op op_add (pe_ix ix_list (pv 0) pe_int (fun _ _ => rfl)) (pe_op op_mul pe_int (pe_ix ix_list (pv 0) pe_int (fun _ _ => rfl)))) pe_int) pe_int) pa_nil)) pe_int))
      (pss_cons (ps_set (i := 3) scDraw.nd rfl (Or.inl rfl) (pe_op op_modN (pe_callTy call_int1 (by rfl) gI boot_int (pa_cons (pe_op op_mul (pv 3) (pe_op op_add (pe_op op_fdivN (pv 3) pe_int) pe_int)) pa_nil)) pe_int))
      (pss_one (ps_ret (pe_op op_modN (pe_callTy call_int1 (by rfl) gI boot_int (pa_cons (pe_op op_modN (pe_callTy call_int1 (by rfl) gI boot_int (pa_cons (pe_op op_mul (pv 3) (pe_op op_add (pe_op op_fdivN (pv 3) pe_int) pe_int)) pa_nil)) pe_int) pa_nil)) (pv 1)))))))), ?_⟩
  · obtain ⟨a, m, rfl, ⟨c, b, n, ha⟩, m0, m1, k⟩ := h
    have iL : ∀ {H' : Hp} {l : List V}, H' a = some (.lst l) → SqL K H' a l := fun h => SqL.of h
    refine ⟨_, rfl, a, _, 0, _, rfl, rfl, iL ha, by rfl, _, _, rfl, rfl, _, rfl, ?_⟩
    refine ite2 (fun _ => ?_) (fun _ => ?_)
    · refine ⟨_, rfl, a, _, 0, _, rfl, rfl, iL ha, by rfl, .inl ⟨_, rfl, ?_⟩⟩
      refine ⟨_, rfl, _, _, rfl, rfl, by omega, ?_⟩
      refine ⟨_, rfl, a, _, 0, _, rfl, rfl, iL ha, by rfl, _, rfl, _, _, rfl, rfl, ⟨by omega, by omega⟩, ?_⟩
      refine ⟨_, rfl, a, _, 0, _, rfl, rfl, ha, by rfl, _, rfl, ?_⟩
      refine k _ _ ?_ ?_ ⟨_, _, _, upd_same⟩ But.upd
      · exact Int.fmod_nonneg_of_pos _ m0
      · exact Int.fmod_lt_of_pos _ m0
    · refine ⟨_, rfl, a, _, 2, _, rfl, rfl, iL ha, by rfl, _, _, rfl, rfl, ?_⟩
      refine ⟨_, rfl, a, _, 2, _, rfl, rfl, ha, by rfl, ?_⟩
      have h2 : upd H a (.lst ([V.int c, V.int b, V.int n].set 2 (V.int (n + 1)))) a = some (.lst [V.int c, V.int b, V.int (n + 1)]) := upd_same
      refine ⟨_, rfl, a, _, 1, _, rfl, rfl, iL h2, by rfl, _, rfl, a, _, 2, _, rfl, rfl, iL h2, by rfl, 40087, _, rfl, rfl, .inl (by decide), ?_⟩
      refine ⟨_, _, rfl, rfl, _, _, rfl, rfl, _, 48271, rfl, rfl, .inr (by decide), .inl ⟨_, rfl, ?_⟩⟩
      refine ⟨_, 2147483647, rfl, rfl, (show (2147483647 : Int) ≠ 0 by decide), ?_⟩
      have l1 := Int.fmod_nonneg_of_pos ((b + 40087 * (n + 1) + 11) * 48271) (show (0 : Int) < 2147483647 by decide)
      have u1 := Int.fmod_lt_of_pos ((b + 40087 * (n + 1) + 11) * 48271) (show (0 : Int) < 2147483647 by decide)
      refine ⟨_, rfl, _, rfl, _, 1021, rfl, rfl, ⟨by decide, by decide⟩, _, 69691, rfl, rfl, _, _, rfl, rfl, .inl (by omega), .inl ⟨_, rfl, ?_⟩⟩
      refine ⟨_, 2147483587, rfl, rfl, (show (2147483587 : Int) ≠ 0 by decide), ?_⟩
      obtain ⟨v2, e2, l2, u2⟩ : ∃ v2 : Int, v2 = ((((b + 40087 * (n + 1) + 11) * 48271).fmod 2147483647) * ((((b + 40087 * (n + 1) + 11) * 48271).fmod 2147483647).fdiv 1021 + 69691)).fmod 2147483587 ∧ 0 ≤ v2 ∧ v2 < 2147483587 :=
        ⟨_, rfl, Int.fmod_nonneg_of_pos _ (by decide), Int.fmod_lt_of_pos _ (by decide)⟩
      have h3 : ∀ {i : Nat}, i = 3 → (List.set (List.set (start nDraw [V.ref a, V.int m]) 3 (some (V.int (((b + 40087 * (n + 1) + 11) * 48271).fmod 2147483647)))) 3 (some (V.int v2)))[i]? = some (some (V.int v2)) := fun e => by subst e; rfl
      subst e2
      refine ⟨_, h3 rfl, _, h3 rfl, _, 2017, rfl, rfl, ⟨by decide, by decide⟩, _, 40699, rfl, rfl, _, _, rfl, rfl, .inl ⟨by omega, by omega⟩, .inl ⟨_, rfl, ?_⟩⟩
      refine ⟨_, 2147483399, rfl, rfl, (show (2147483399 : Int) ≠ 0 by decide), .inl ⟨_, rfl, ?_⟩⟩
      refine ⟨_, rfl, _, _, rfl, rfl, (show m ≠ 0 by omega), ?_⟩
      exact k _ _ (Int.fmod_nonneg_of_pos _ m0) (Int.fmod_lt_of_pos _ m0) ⟨_, _, _, h2⟩ But.upd
end
end K05

set_option maxRecDepth 100000
set_option maxHeartbeats 4000000
namespace K05
open PySem PySem.Spec PyProof.Rows L2 He VH
abbrev sWell : Stmt := top 27
abbrev sOne : Stmt := top 28
theorem rep_ints (n : Nat) : (List.replicate n [V.int 0]).flatten = (List.replicate n (0 : Int)).map V.int := by
  induction n with
  | zero => rfl
  | succ n ih =>
    rw [List.replicate_succ, List.flatten_cons, ih, List.replicate_succ, List.map_cons]
    rfl
theorem cell_is {ns : List Int} {k : Nat} {m : Int} (hm : m = (k : Int) + 1) : ∃ c : Int, atI (ns.map V.int ++ (List.replicate m.toNat [V.int 0]).flatten) (k : Int) = some (V.int c) := by
  have e : m.toNat = k + 1 := by omega
  rw [e, rep_ints, ← List.map_append]
  have lt : k < (ns ++ List.replicate (k + 1) (0 : Int)).length := by
    rw [List.length_append, List.length_replicate]
    omega
  refine ⟨(ns ++ List.replicate (k + 1) (0 : Int))[k], atI_nat ?_⟩
  rw [List.getElem?_map, List.getElem?_eq_getElem lt]
  rfl
section
variable {P : Program} {w : World} {K : PySem.W.Frag} {mg : Str → Option Value} {base : Heap} {f fD : Addr} {fd fdD : FuncData}
theorem scWell : FnScope ["_law_script", "_law_at", "_law_cell"] ["_law_script", "_law_at"] (defScope sWell) := ⟨rfl, rfl, rfl, by decide +kernel, rfl, by decide +kernel, by decide +kernel⟩
theorem ok_well (F : FnP K "_law_well" sWell f fd) (gI : mg "int" = none) : FnOk P w K mg base CX0 1 f fd ["_law_script", "_law_at"] (spWell K) := by
  refine F.ok scWell (fun vs H Q E h => ?_) (fun cdv A outer s H vs Q E hr h => ?_)
  · obtain ⟨a, ns, k, rfl, _⟩ := h
    rfl
  refine ⟨_, PSs.nox (pss_cons (ps_set (i := 2) scWell.nd rfl (Or.inl rfl) (pe_ix ix_list (pe_op op_catR (pv 0) (pe_op op_rep (pe_lst (pa_cons pe_int pa_nil)) (pe_op op_add (pv 1) pe_int))) (pv 1) (fun _ _ => rfl)))
    (pss_one (ps_ret (pe_lst (pa_cons (pe_op op_mul (pv 2) (pe_callTy call_int1 (by rfl) gI boot_int (pa_cons (pe_cmpR op_ge (pv 2) (pe_op op_pow pe_int pe_int) (nomark _)) pa_nil)))
      (pa_cons (pe_op op_add (pe_op op_modN (pe_callTy call_int1 (by rfl) gI boot_int (pa_cons (pv 2) pa_nil)) pe_int) (pe_op op_mul pe_int (pv 1)))
      (pa_cons pe_int pa_nil))))))), ?_⟩
  obtain ⟨a, ns, k, rfl, ha, l1, l2, kk⟩ := h
  refine ⟨_, rfl, by decide, fun p hp => ?_⟩
  refine ⟨_, rfl, _, 1, rfl, rfl, p, _, _, rfl, rfl, upd_same, by omega, by omega, ?_, fun q hq => ?_⟩
  · show 1 * ((k : Int) + 1).toNat ≤ sizeLine
    rw [sizeLine_eq]
    omega
  obtain ⟨c, hc⟩ := cell_is (ns := ns) (k := k) (m := (k : Int) + 1) rfl
  have len2 : (ns.map V.int).length + (List.replicate ((k : Int) + 1).toNat [V.int 0]).flatten.length ≤ sizeLine := by
    rw [rep_ints, List.length_map, List.length_map, List.length_replicate, sizeLine_eq]
    omega
  refine ⟨a, q, _, _, rfl, rfl, ((Same.new hp).trans (Same.new hq)).seq ha, SqL.of upd_same, len2, fun r hr => ?_⟩
  refine ⟨_, rfl, r, _, k, _, rfl, rfl, SqL.of upd_same, hc, ?_⟩
  refine ⟨_, rfl, _, rfl, _, _, rfl, rfl, ⟨by decide, by decide, by decide⟩, _, _, rfl, rfl, .inr ⟨_, rfl, ?_⟩⟩
  refine ⟨_, _, rfl, rfl, .inr ?_, ?_⟩
  · split <;> decide
  refine ⟨_, rfl, .inl ⟨_, rfl, _, _, rfl, rfl, (show (2147483647 : Int) ≠ 0 by decide), ?_⟩⟩
  refine ⟨_, rfl, 7919, _, rfl, rfl, .inl (by decide), _, _, rfl, rfl, ?_⟩
  refine ⟨by show 3 ≤ sizeLine; decide, fun z hz => ?_⟩
  refine kk _ _ ?_ ⟨_, _, _, upd_same⟩ ((((Same.new hp).trans (Same.new hq)).trans (Same.new hr)).trans (Same.new hz))
  exact (((Same.new hp).trans (Same.new hq)).trans (Same.new hr)).free hz
theorem scOne : FnScope ["_law_well_here", "_law_some"] ["_law_well_here", "_law_some"] (defScope sOne) := ⟨rfl, rfl, rfl, by decide +kernel, rfl, by decide +kernel, by decide +kernel⟩
theorem ok_one (F : FnP K "_law_one" sOne f fd) (FD : FnP K "_law_draw" sDraw fD fdD) (gD : mg "_law_draw" = some (.ref fD)) (gI : mg "int" = none) (gL : mg "len" = none) :
    FnOk P w K mg base CX0 2 f fd ["_law_well_here", "_law_some"] (spOne K) := by
  have GD : FnOk P w K mg base CX0 1 fD fdD ["_law_well_here", "_law_much"] spDraw := ok_draw FD gI
  have bD : Binds K fdD ["_law_well_here", "_law_much"] [] := FD.bindsN fun _ _ _ _ _ _ us hl => match us, hl with | [_, _], _ => rfl
  refine F.ok scOne (fun vs H Q E h => ?_) (fun cdv A outer s H vs Q E hr h => ?_)
  · obtain ⟨a, l, xs, rfl, _⟩ := h
    rfl
  refine ⟨_, PSs.nox (pss_one (ps_ret (pe_ix ix_list (pv 1) (pe_call GD hr (by rfl) gD FD.kp bD .nil pass0 (pa_cons (pv 0) (pa_cons (pe_callB call_len_seq (by rfl) gL boot_len (pa_cons (pv 1) pa_nil)) pa_nil))) (fun _ _ => rfl)))), ?_⟩
  obtain ⟨a, l, xs, rfl, wl, ne, hl, x0, x1, k⟩ := h
  refine ⟨_, rfl, _, rfl, _, rfl, l, xs, rfl, .inl (SqL.of hl), ?_⟩
  refine ⟨a, (xs.length : Int), rfl, wl, by omega, by omega, fun H' d d0 d1 w2 bt => ?_⟩
  obtain ⟨x, hx, ex⟩ := atI_some (xs := xs) d0 d1
  exact ⟨l, xs, d, x, rfl, rfl, SqL.of (bt _ _ ne hl), ex, k H' x hx w2 bt⟩
end
end K05

set_option maxRecDepth 100000
set_option maxHeartbeats 4000000
namespace K05
open PySem PySem.Spec PyProof.Rows L2 He VH
abbrev sKinds : Stmt := top 29
def kinds (i : Nat) : List V := (List.range 23).map fun j => .bl (i == j)
def spKinds (K : PySem.W.Frag) : Sp := fun vs H Q _ => ∃ (a : Addr) (i : Nat) (c : Str × List Str) (fs : List (Str × V)), vs = [.ref a] ∧ cls[i]? = some c ∧ i < 23 ∧ IsEx H a (ga K (nmC i)) fs ∧ ∀ (H' : Hp) (p : Addr), H p = none → Same H H' → H' p = some (.lst (kinds i)) → Q (.ref p) H'
section
variable {P : Program} {w : World} {K : PySem.W.Frag} {mg : Str → Option Value} {base : Heap} {f : Addr} {fd : FuncData}
theorem scKinds : FnScope ["_law_e", "_law_found"] ["_law_e"] (defScope sKinds) := ⟨rfl, rfl, rfl, by decide +kernel, rfl, by decide +kernel, by decide +kernel⟩
theorem ok_kinds (F : FnP K "_law_kinds" sKinds f fd) (T : Txt K mg) : FnOk P w K mg base CX0 1 f fd ["_law_e"] (spKinds K) := by
  refine F.ok scKinds (fun vs H Q E h => ?_) (fun cdv A outer s H vs Q E hr h => ?_)
  · obtain ⟨a, i, c, fs, rfl, _⟩ := h
    rfl
  refine ⟨_, PSs.nox (pss_cons (ps_set (i := 1) scKinds.nd rfl (Or.inl rfl) (pe_lst (pa_cons (pe_callB call_isX (by rfl) T.gS boot_isinstance (pa_cons (pv 0) (pa_cons (pe_glob (v := .ref (ga K (nmC 0))) (by rfl) (T.mc 0 _ rfl) rfl) pa_nil))) (pa_cons (pe_callB call_isX (by rfl) T.gS boot_isinstance (pa_cons (pv 0) (pa_cons (pe_glob (v := .ref (ga K (nmC 1))) (by rfl) (T.mc 1 _ rfl) rfl) pa_nil))) (pa_cons (pe_callB call_isX (by rfl) T.gS boot_isinstance (pa_cons (pv 0) (pa_cons (pe_glob (v := .ref (ga K (nmC 2))) (by rfl) (T.mc 2 _ rfl) rfl) pa_nil))) (pa_cons (pe_callB call_isX (by rfl) T.gS boot_isinstance (pa_cons (pv 0) (pa_cons (pe_glob (v := .ref (ga K (nmC 3))) (by rfl) (T.mc 3 _ rfl) rfl) pa_nil))) pa_nil))))))
    (pss_cons (ps_set (i := 1) scKinds.nd rfl (Or.inl rfl) (pe_op op_cat (pv 1) (pe_lst (pa_cons (pe_callB call_isX (by rfl) T.gS boot_isinstance (pa_cons (pv 0) (pa_cons (pe_glob (v := .ref (ga K (nmC 4))) (by rfl) (T.mc 4 _ rfl) rfl) pa_nil))) (pa_cons (pe_callB call_isX (by rfl) T.gS boot_isinstance (pa_cons (pv 0) (pa_cons (pe_glob (v := .ref (ga K (nmC 5))) (by rfl) (T.mc 5 _ rfl) rfl) pa_nil))) (pa_cons (pe_callB call_isX (by rfl) T.gS boot_isinstance (pa_cons (pv 0) (pa_cons (pe_glob (v := .ref (ga K (nmC 6))) (by rfl) (T.mc 6 _ rfl) rfl) pa_nil))) (pa_cons (pe_callB call_isX (by rfl) T.gS boot_isinstance (pa_cons (pv 0) (pa_cons (pe_glob (v := .ref (ga K (nmC 7))) (by rfl) (T.mc 7 _ rfl) rfl) pa_nil))) pa_nil)))))))
    (pss_cons (ps_set (i := 1) scKinds.nd rfl (Or.inl rfl) (pe_op op_cat (pv 1) (pe_lst (pa_cons (pe_callB call_isX (by rfl) T.gS boot_isinstance (pa_cons (pv 0) (pa_cons (pe_glob (v := .ref (ga K (nmC 8))) (by rfl) (T.mc 8 _ rfl) rfl) pa_nil))) (pa_cons (pe_callB call_isX (by rfl) T.gS boot_isinstance (pa_cons (pv 0) (pa_cons (pe_glob (v := .ref (ga K (nmC 9))) (by rfl) (T.mc 9 _ rfl) rfl) pa_nil))) (pa_cons (pe_callB call_isX (by rfl) T.gS boot_isinstance (pa_cons (pv 0) (pa_cons (pe_glob (v := .ref (ga K (nmC 10))) (by rfl) (T.mc 10 _ rfl) rfl) pa_nil))) (pa_cons (pe_callB call_isX (by rfl) T.gS boot_isinstance (pa_cons (pv 0) (pa_cons (pe_glob (v := .ref (ga K (nmC 11))) (by rfl) (T.mc 11 _ rfl) rfl) pa_nil))) pa_nil)))))))
    (pss_cons (ps_set (i := 1) scKinds.nd rfl (Or.inl rfl) (pe_op op_cat (pv 1) (pe_lst (pa_cons (pe_callB call_isX (by rfl) T.gS boot_isinstance (pa_cons (pv 0) (pa_cons (pe_glob (v := .ref (ga K (nmC 12))) (by rfl) (T.mc 12 _ rfl) rfl) pa_nil))) (pa_cons (pe_callB call_isX (by rfl) T.gS boot_isinstance (pa_cons (pv 0) (pa_cons (pe_glob (v := .ref (ga K (nmC 13))) (by rfl) (T.mc 13 _ rfl) rfl) pa_nil))) (pa_cons (pe_callB call_isX (by rfl) T.gS boot_isinstance (pa_cons (pv 0) (pa_cons (pe_glob (v := .ref (ga K (nmC 14))) (by rfl) (T.mc 14 _ rfl) rfl) pa_nil))) (pa_cons (pe_callB call_isX (by rfl) T.gS boot_isinstance (pa_cons (pv 0) (pa_cons (pe_glob (v := .ref (ga K (nmC 15))) (by rfl) (T.mc 15 _ rfl) rfl) pa_nil))) pa_nil)))))))
    (pss_cons (ps_set (i := 1) scKinds.nd rfl (Or.inl rfl) (pe_op op_cat (pv 1) (pe_lst (pa_cons (pe_callB call_isX (by rfl) T.gS boot_isinstance (pa_cons (pv 0) (pa_cons (pe_glob (v := .ref (ga K (nmC 16))) (by rfl) (T.mc 16 _ rfl) rfl) pa_nil))) (pa_cons (pe_callB call_isX (by rfl) T.gS boot_isinstance (pa_cons (pv 0) (pa_cons (pe_glob (v := .ref (ga K (nmC 17))) (by rfl) (T.mc 17 _ rfl) rfl) pa_nil))) (pa_cons (pe_callB call_isX (by rfl) T.gS boot_isinstance (pa_cons (pv 0) (pa_cons (pe_glob (v := .ref (ga K (nmC 18))) (by rfl) (T.mc 18 _ rfl) rfl) pa_nil))) (pa_cons (pe_callB call_isX (by rfl) T.gS boot_isinstance (pa_cons (pv 0) (pa_cons (pe_glob (v := .ref (ga K (nmC 19))) (by rfl) (T.mc 19 _ rfl) rfl) pa_nil))) pa_nil)))))))
    (pss_one (ps_ret (pe_op op_cat (pv 1) (pe_lst (pa_cons (pe_callB call_isX (by rfl) T.gS boot_isinstance (pa_cons (pv 0) (pa_cons (pe_glob (v := .ref (ga K (nmC 20))) (by rfl) (T.mc 20 _ rfl) rfl) pa_nil))) (pa_cons (pe_callB call_isX (by rfl) T.gS boot_isinstance (pa_cons (pv 0) (pa_cons (pe_glob (v := .ref (ga K (nmC 21))) (by rfl) (T.mc 21 _ rfl) rfl) pa_nil))) (pa_cons (pe_callB call_isX (by rfl) T.gS boot_isinstance (pa_cons (pv 0) (pa_cons (pe_glob (v := .ref (ga K (nmC 22))) (by rfl) (T.mc 22 _ rfl) rfl) pa_nil))) pa_nil)))))))))))), ?_⟩
  obtain ⟨a, i, c, fs, rfl, hc, lt, is0, k⟩ := h
  have nm : nmC i = c.1 := by
    unfold nmC
    rw [List.getD_eq_getElem?_getD, hc]
    rfl
  have ec : ExcC K (ga K (nmC i)) := by
    rw [nm]
    exact T.ec i c hc
  have same0 : Same H H := Same.refl H
  refine ⟨_, rfl, a, _, fs, _, _, _, rfl, is0, ec, fun u e => e, T.kit i 0 lt (by decide), ?_⟩
  refine ⟨_, rfl, a, _, fs, _, _, _, rfl, is0, ec, fun u e => e, T.kit i 1 lt (by decide), ?_⟩
  refine ⟨_, rfl, a, _, fs, _, _, _, rfl, is0, ec, fun u e => e, T.kit i 2 lt (by decide), ?_⟩
  refine ⟨_, rfl, a, _, fs, _, _, _, rfl, is0, ec, fun u e => e, T.kit i 3 lt (by decide), ?_⟩
  refine ⟨by show 4 ≤ sizeLine; decide, fun l0 n0 => ?_⟩
  have s1 : Same H _ := Same.new (o := .lst [.bl (i == 0), .bl (i == 1), .bl (i == 2), .bl (i == 3)]) n0
  have is1 := is0.same s1
  have f1 : upd H l0 (.lst [.bl (i == 0), .bl (i == 1), .bl (i == 2), .bl (i == 3)]) l0 = some (.lst [.bl (i == 0), .bl (i == 1), .bl (i == 2), .bl (i == 3)]) := upd_same
  generalize upd H l0 (.lst [.bl (i == 0), .bl (i == 1), .bl (i == 2), .bl (i == 3)]) = H1 at *
  refine ⟨_, rfl, ?_⟩
  refine ⟨_, rfl, a, _, fs, _, _, _, rfl, is1, ec, fun u e => e, T.kit i 4 lt (by decide), ?_⟩
  refine ⟨_, rfl, a, _, fs, _, _, _, rfl, is1, ec, fun u e => e, T.kit i 5 lt (by decide), ?_⟩
  refine ⟨_, rfl, a, _, fs, _, _, _, rfl, is1, ec, fun u e => e, T.kit i 6 lt (by decide), ?_⟩
  refine ⟨_, rfl, a, _, fs, _, _, _, rfl, is1, ec, fun u e => e, T.kit i 7 lt (by decide), ?_⟩
  refine ⟨by show 4 ≤ sizeLine; decide, fun p1 m1 => ?_⟩
  refine ⟨l0, p1, _, _, rfl, rfl, Same.new m1 _ _ f1, upd_same, by show 8 ≤ sizeLine; decide, fun l1 n1 => ?_⟩
  have s2 := (s1.trans (Same.new (o := .lst [.bl (i == 4), .bl (i == 5), .bl (i == 6), .bl (i == 7)]) m1)).trans (Same.new (o := .lst ([.bl (i == 0), .bl (i == 1), .bl (i == 2), .bl (i == 3)] ++ [.bl (i == 4), .bl (i == 5), .bl (i == 6), .bl (i == 7)])) n1)
  have is2 := is0.same s2
  have f2 : (upd (upd H1 p1 (.lst [.bl (i == 4), .bl (i == 5), .bl (i == 6), .bl (i == 7)])) l1 (.lst ([.bl (i == 0), .bl (i == 1), .bl (i == 2), .bl (i == 3)] ++ [.bl (i == 4), .bl (i == 5), .bl (i == 6), .bl (i == 7)]))) l1 = some (.lst [.bl (i == 0), .bl (i == 1), .bl (i == 2), .bl (i == 3), .bl (i == 4), .bl (i == 5), .bl (i == 6), .bl (i == 7)]) := upd_same
  generalize upd (upd H1 p1 (.lst [.bl (i == 4), .bl (i == 5), .bl (i == 6), .bl (i == 7)])) l1 (.lst ([.bl (i == 0), .bl (i == 1), .bl (i == 2), .bl (i == 3)] ++ [.bl (i == 4), .bl (i == 5), .bl (i == 6), .bl (i == 7)])) = H2 at *
  refine ⟨_, rfl, ?_⟩
  refine ⟨_, rfl, a, _, fs, _, _, _, rfl, is2, ec, fun u e => e, T.kit i 8 lt (by decide), ?_⟩
  refine ⟨_, rfl, a, _, fs, _, _, _, rfl, is2, ec, fun u e => e, T.kit i 9 lt (by decide), ?_⟩
  refine ⟨_, rfl, a, _, fs, _, _, _, rfl, is2, ec, fun u e => e, T.kit i 10 lt (by decide), ?_⟩
  refine ⟨_, rfl, a, _, fs, _, _, _, rfl, is2, ec, fun u e => e, T.kit i 11 lt (by decide), ?_⟩
  refine ⟨by show 4 ≤ sizeLine; decide, fun p2 m2 => ?_⟩
  refine ⟨l1, p2, _, _, rfl, rfl, Same.new m2 _ _ f2, upd_same, by show 12 ≤ sizeLine; decide, fun l2 n2 => ?_⟩
  have s3 := (s2.trans (Same.new (o := .lst [.bl (i == 8), .bl (i == 9), .bl (i == 10), .bl (i == 11)]) m2)).trans (Same.new (o := .lst ([.bl (i == 0), .bl (i == 1), .bl (i == 2), .bl (i == 3), .bl (i == 4), .bl (i == 5), .bl (i == 6), .bl (i == 7)] ++ [.bl (i == 8), .bl (i == 9), .bl (i == 10), .bl (i == 11)])) n2)
  have is3 := is0.same s3
  have f3 : (upd (upd H2 p2 (.lst [.bl (i == 8), .bl (i == 9), .bl (i == 10), .bl (i == 11)])) l2 (.lst ([.bl (i == 0), .bl (i == 1), .bl (i == 2), .bl (i == 3), .bl (i == 4), .bl (i == 5), .bl (i == 6), .bl (i == 7)] ++ [.bl (i == 8), .bl (i == 9), .bl (i == 10), .bl (i == 11)]))) l2 = some (.lst [.bl (i == 0), .bl (i == 1), .bl (i == 2), .bl (i == 3), .bl (i == 4), .bl (i == 5), .bl (i == 6), .bl (i == 7), .bl (i == 8), .bl (i == 9), .bl (i == 10), .bl (i == 11)]) := upd_same
  generalize upd (upd H2 p2 (.lst [.bl (i == 8), .bl (i == 9), .bl (i == 10), .bl (i == 11)])) l2 (.lst ([.bl (i == 0), .bl (i == 1), .bl (i == 2), .bl (i == 3), .bl (i == 4), .bl (i == 5), .bl (i == 6), .bl (i == 7)] ++ [.bl (i == 8), .bl (i == 9), .bl (i == 10), .bl (i == 11)])) = H3 at *
  refine ⟨_, rfl, ?_⟩
  refine ⟨_, rfl, a, _, fs, _, _, _, rfl, is3, ec, fun u e => e, T.kit i 12 lt (by decide), ?_⟩
  refine ⟨_, rfl, a, _, fs, _, _, _, rfl, is3, ec, fun u e => e, T.kit i 13 lt (by decide), ?_⟩
  refine ⟨_, rfl, a, _, fs, _, _, _, rfl, is3, ec, fun u e => e, T.kit i 14 lt (by decide), ?_⟩
  refine ⟨_, rfl, a, _, fs, _, _, _, rfl, is3, ec, fun u e => e, T.kit i 15 lt (by decide), ?_⟩
  refine ⟨by show 4 ≤ sizeLine; decide, fun p3 m3 => ?_⟩
  refine ⟨l2, p3, _, _, rfl, rfl, Same.new m3 _ _ f3, upd_same, by show 16 ≤ sizeLine; decide, fun l3 n3 => ?_⟩
  have s4 := (s3.trans (Same.new (o := .lst [.bl (i == 12), .bl (i == 13), .bl (i == 14), .bl (i == 15)]) m3)).trans (Same.new (o := .lst ([.bl (i == 0), .bl (i == 1), .bl (i == 2), .bl (i == 3), .bl (i == 4), .bl (i == 5), .bl (i == 6), .bl (i == 7), .bl (i == 8), .bl (i == 9), .bl (i == 10), .bl (i == 11)] ++ [.bl (i == 12), .bl (i == 13), .bl (i == 14), .bl (i == 15)])) n3)
  have is4 := is0.same s4
  have f4 : (upd (upd H3 p3 (.lst [.bl (i == 12), .bl (i == 13), .bl (i == 14), .bl (i == 15)])) l3 (.lst ([.bl (i == 0), .bl (i == 1), .bl (i == 2), .bl (i == 3), .bl (i == 4), .bl (i == 5), .bl (i == 6), .bl (i == 7), .bl (i == 8), .bl (i == 9), .bl (i == 10), .bl (i == 11)] ++ [.bl (i == 12), .bl (i == 13), .bl (i == 14), .bl (i == 15)]))) l3 = some (.lst [.bl (i == 0), .bl (i == 1), .bl (i == 2), .bl (i == 3), .bl (i == 4), .bl (i == 5), .bl (i == 6), .bl (i == 7), .bl (i == 8), .bl (i == 9), .bl (i == 10), .bl (i == 11), .bl (i == 12), .bl (i == 13), .bl (i == 14), .bl (i == 15)]) := upd_same
  generalize upd (upd H3 p3 (.lst [.bl (i == 12), .bl (i == 13), .bl (i == 14), .bl (i == 15)])) l3 (.lst ([.bl (i == 0), .bl (i == 1), .bl (i == 2), .bl (i == 3), .bl (i == 4), .bl (i == 5), .bl (i == 6), .bl (i == 7), .bl (i == 8), .bl (i == 9), .bl (i == 10), .bl (i == 11)] ++ [.bl (i == 12), .bl (i == 13), .bl (i == 14), .bl (i == 15)])) = H4 at *
  refine ⟨_, rfl, ?_⟩
  refine ⟨_, rfl, a, _, fs, _, _, _, rfl, is4, ec, fun u e => e, T.kit i 16 lt (by decide), ?_⟩
  refine ⟨_, rfl, a, _, fs, _, _, _, rfl, is4, ec, fun u e => e, T.kit i 17 lt (by decide), ?_⟩
  refine ⟨_, rfl, a, _, fs, _, _, _, rfl, is4, ec, fun u e => e, T.kit i 18 lt (by decide), ?_⟩
  refine ⟨_, rfl, a, _, fs, _, _, _, rfl, is4, ec, fun u e => e, T.kit i 19 lt (by decide), ?_⟩
  refine ⟨by show 4 ≤ sizeLine; decide, fun p4 m4 => ?_⟩
  refine ⟨l3, p4, _, _, rfl, rfl, Same.new m4 _ _ f4, upd_same, by show 20 ≤ sizeLine; decide, fun l4 n4 => ?_⟩
  have s5 := (s4.trans (Same.new (o := .lst [.bl (i == 16), .bl (i == 17), .bl (i == 18), .bl (i == 19)]) m4)).trans (Same.new (o := .lst ([.bl (i == 0), .bl (i == 1), .bl (i == 2), .bl (i == 3), .bl (i == 4), .bl (i == 5), .bl (i == 6), .bl (i == 7), .bl (i == 8), .bl (i == 9), .bl (i == 10), .bl (i == 11), .bl (i == 12), .bl (i == 13), .bl (i == 14), .bl (i == 15)] ++ [.bl (i == 16), .bl (i == 17), .bl (i == 18), .bl (i == 19)])) n4)
  have is5 := is0.same s5
  have f5 : (upd (upd H4 p4 (.lst [.bl (i == 16), .bl (i == 17), .bl (i == 18), .bl (i == 19)])) l4 (.lst ([.bl (i == 0), .bl (i == 1), .bl (i == 2), .bl (i == 3), .bl (i == 4), .bl (i == 5), .bl (i == 6), .bl (i == 7), .bl (i == 8), .bl (i == 9), .bl (i == 10), .bl (i == 11), .bl (i == 12), .bl (i == 13), .bl (i == 14), .bl (i == 15)] ++ [.bl (i == 16), .bl (i == 17), .bl (i == 18), .bl (i == 19)]))) l4 = some (.lst [.bl (i == 0), .bl (i == 1), .bl (i == 2), .bl (i == 3), .bl (i == 4), .bl (i == 5), .bl (i == 6), .bl (i == 7), .bl (i == 8), .bl (i == 9), .bl (i == 10), .bl (i == 11), .bl (i == 12), .bl (i == 13), .bl (i == 14), .bl (i == 15), .bl (i == 16), .bl (i == 17), .bl (i == 18), .bl (i == 19)]) := upd_same
  generalize upd (upd H4 p4 (.lst [.bl (i == 16), .bl (i == 17), .bl (i == 18), .bl (i == 19)])) l4 (.lst ([.bl (i == 0), .bl (i == 1), .bl (i == 2), .bl (i == 3), .bl (i == 4), .bl (i == 5), .bl (i == 6), .bl (i == 7), .bl (i == 8), .bl (i == 9), .bl (i == 10), .bl (i == 11), .bl (i == 12), .bl (i == 13), .bl (i == 14), .bl (i == 15)] ++ [.bl (i == 16), .bl (i == 17), .bl (i == 18), .bl (i == 19)])) = H5 at *
  refine ⟨_, rfl, ?_⟩
  refine ⟨_, rfl, a, _, fs, _, _, _, rfl, is5, ec, fun u e => e, T.kit i 20 lt (by decide), ?_⟩
  refine ⟨_, rfl, a, _, fs, _, _, _, rfl, is5, ec, fun u e => e, T.kit i 21 lt (by decide), ?_⟩
  refine ⟨_, rfl, a, _, fs, _, _, _, rfl, is5, ec, fun u e => e, T.kit i 22 lt (by decide), ?_⟩
  refine ⟨by show 3 ≤ sizeLine; decide, fun p5 m5 => ?_⟩
  refine ⟨l4, p5, _, _, rfl, rfl, Same.new m5 _ _ f5, upd_same, by show 23 ≤ sizeLine; decide, fun l5 n5 => ?_⟩
  have s6 := (s5.trans (Same.new (o := .lst [.bl (i == 20), .bl (i == 21), .bl (i == 22)]) m5)).trans (Same.new (o := .lst ([.bl (i == 0), .bl (i == 1), .bl (i == 2), .bl (i == 3), .bl (i == 4), .bl (i == 5), .bl (i == 6), .bl (i == 7), .bl (i == 8), .bl (i == 9), .bl (i == 10), .bl (i == 11), .bl (i == 12), .bl (i == 13), .bl (i == 14), .bl (i == 15), .bl (i == 16), .bl (i == 17), .bl (i == 18), .bl (i == 19)] ++ [.bl (i == 20), .bl (i == 21), .bl (i == 22)])) n5)
  exact k _ _ ((s5.trans (Same.new m5)).free n5) s6 upd_same
end
end K05

set_option maxRecDepth 100000
set_option maxHeartbeats 8000000
namespace K05
open PySem PySem.Spec PyProof.Rows L2 He VH
def specs (x : V) : List (Str × List (Str × V)) := cls.map fun c => (c.1, (c.2.zip [x, .int 7]).reverse)
def spMade (K : PySem.W.Frag) : Sp := fun vs H Q _ => ∃ x : V, vs = [x] ∧ ∀ (H' : Hp) (p : Addr) (xs : List V), H p = none → Same H H' → H' p = some (.lst xs) → ExL K H' xs (specs x) → Q (.ref p) H'
section
variable {P : Program} {w : World} {K : PySem.W.Frag} {mg : Str → Option Value} {base : Heap} {f : Addr} {fd : FuncData}
abbrev sPlace : Stmt := top 30
theorem scPlace : FnScope ["_law_x", "_law_some"] ["_law_x"] (defScope sPlace) := ⟨rfl, rfl, rfl, by decide +kernel, rfl, by decide +kernel, by decide +kernel⟩
theorem ok_Place {fd0 : FuncData} {fd1 : FuncData} {fd2 : FuncData} {fd3 : FuncData} {fd4 : FuncData} {fd5 : FuncData} {fd6 : FuncData} {fd7 : FuncData} {fd8 : FuncData} {fd9 : FuncData} {fd10 : FuncData} {fd11 : FuncData} {fd12 : FuncData} {fd13 : FuncData} {fd14 : FuncData} {fd15 : FuncData} {fd16 : FuncData} {fd17 : FuncData} {fd18 : FuncData} {fd19 : FuncData} {fd20 : FuncData} {fd21 : FuncData} {fd22 : FuncData} (F : FnP K "_law_by_place" sPlace f fd) (T : Txt K mg) (F0 : FnI K "NoStatement.__init__" 2 (ma K (ga K "NoStatement") "__init__") fd0) (F1 : FnI K "NoState.__init__" 14 (ma K (ga K "NoState") "__init__") fd1) (F2 : FnI K "NoRow.__init__" 3 (ma K (ga K "NoRow") "__init__") fd2) (F3 : FnI K "NoNumber.__init__" 4 (ma K (ga K "NoNumber") "__init__") fd3) (F4 : FnI K "NoFill.__init__" 6 (ma K (ga K "NoFill") "__init__") fd4) (F5 : FnI K "NoPhase.__init__" 7 (ma K (ga K "NoPhase") "__init__") fd5) (F6 : FnI K "NoRun.__init__" 9 (ma K (ga K "NoRun") "__init__") fd6) (F7 : FnI K "NoKey.__init__" 10 (ma K (ga K "NoKey") "__init__") fd7) (F8 : FnI K "NoDeed.__init__" 11 (ma K (ga K "NoDeed") "__init__") fd8) (F9 : FnI K "NotNow.__init__" 12 (ma K (ga K "NotNow") "__init__") fd9) (F10 : FnI K "NoDeeds.__init__" 13 (ma K (ga K "NoDeeds") "__init__") fd10) (F11 : FnI K "NoMove.__init__" 15 (ma K (ga K "NoMove") "__init__") fd11) (F12 : FnI K "NoHistory.__init__" 16 (ma K (ga K "NoHistory") "__init__") fd12) (F13 : FnI K "NoTable.__init__" 17 (ma K (ga K "NoTable") "__init__") fd13) (F14 : FnI K "TooMany.__init__" 18 (ma K (ga K "TooMany") "__init__") fd14) (F15 : FnI K "NoWord.__init__" 19 (ma K (ga K "NoWord") "__init__") fd15) (F16 : FnI K "NoOption.__init__" 21 (ma K (ga K "NoOption") "__init__") fd16) (F17 : FnI K "NoOptions.__init__" 22 (ma K (ga K "NoOptions") "__init__") fd17) (F18 : FnI K "NoText.__init__" 23 (ma K (ga K "NoText") "__init__") fd18) (F19 : FnI K "NoChange.__init__" 24 (ma K (ga K "NoChange") "__init__") fd19) (F20 : FnI K "NoWriter.__init__" 5 (ma K (ga K "NoWriter") "__init__") fd20) (F21 : FnI K "NoRollout.__init__" 8 (ma K (ga K "NoRollout") "__init__") fd21) (F22 : FnI K "NoAnswer.__init__" 20 (ma K (ga K "NoAnswer") "__init__") fd22) : FnOk P w K mg base CX0 3 f fd ["_law_x"] (spMade K) := by
  refine F.ok scPlace (fun vs H Q E h => ?_) (fun cdv A outer s H vs Q E hr h => ?_)
  · obtain ⟨x, rfl, _⟩ := h
    rfl
  refine ⟨_, PSs.nox (pss_cons (ps_set (i := 1) scPlace.nd rfl (Or.inl rfl) (pe_lst (pa_cons (pe_mkX0 (T.cl 0 _ rfl).mkx (okI0 F0) hr (by rfl) (T.mc 0 _ rfl) (bI0 F0) pass0) (pa_cons (pe_mkX0 (T.cl 1 _ rfl).mkx (okI1 F1) hr (by rfl) (T.mc 1 _ rfl) (bI1 F1) pass0) (pa_cons (pe_mkX (T.cl 2 _ rfl).mkx (okI2 F2) hr (by rfl) (T.mc 2 _ rfl) (bI2 F2) (by decide) pass0 (pa_cons (pv 0) pa_nil)) (pa_cons (pe_mkX (T.cl 3 _ rfl).mkx (okI3 F3) hr (by rfl) (T.mc 3 _ rfl) (bI3 F3) (by decide) pass0 (pa_cons (pv 0) pa_nil)) (pa_cons (pe_mkX (T.cl 4 _ rfl).mkx (okI4 F4) hr (by rfl) (T.mc 4 _ rfl) (bI4 F4) (by decide) pass0 (pa_cons (pv 0) pa_nil)) (pa_cons (pe_mkX (T.cl 5 _ rfl).mkx (okI5 F5) hr (by rfl) (T.mc 5 _ rfl) (bI5 F5) (by decide) pass0 (pa_cons (pv 0) pa_nil)) (pa_cons (pe_mkX (T.cl 6 _ rfl).mkx (okI6 F6) hr (by rfl) (T.mc 6 _ rfl) (bI6 F6) (by decide) pass0 (pa_cons (pv 0) pa_nil)) (pa_cons (pe_mkX (T.cl 7 _ rfl).mkx (okI7 F7) hr (by rfl) (T.mc 7 _ rfl) (bI7 F7) (by decide) pass0 (pa_cons (pv 0) pa_nil)) (pa_cons (pe_mkX (T.cl 8 _ rfl).mkx (okI8 F8) hr (by rfl) (T.mc 8 _ rfl) (bI8 F8) (by decide) pass0 (pa_cons (pv 0) pa_nil)) pa_nil)))))))))))
    (pss_cons (ps_set (i := 1) scPlace.nd rfl (Or.inl rfl) (pe_op op_cat (pv 1) (pe_lst (pa_cons (pe_mkX (T.cl 9 _ rfl).mkx (okI9 F9) hr (by rfl) (T.mc 9 _ rfl) (bI9 F9) (by decide) pass0 (pa_cons (pv 0) pa_nil)) (pa_cons (pe_mkX (T.cl 10 _ rfl).mkx (okI10 F10) hr (by rfl) (T.mc 10 _ rfl) (bI10 F10) (by decide) pass0 (pa_cons (pv 0) pa_nil)) (pa_cons (pe_mkX (T.cl 11 _ rfl).mkx (okI11 F11) hr (by rfl) (T.mc 11 _ rfl) (bI11 F11) (by decide) pass0 (pa_cons (pv 0) pa_nil)) (pa_cons (pe_mkX (T.cl 12 _ rfl).mkx (okI12 F12) hr (by rfl) (T.mc 12 _ rfl) (bI12 F12) (by decide) pass0 (pa_cons (pv 0) pa_nil)) (pa_cons (pe_mkX (T.cl 13 _ rfl).mkx (okI13 F13) hr (by rfl) (T.mc 13 _ rfl) (bI13 F13) (by decide) pass0 (pa_cons (pv 0) pa_nil)) (pa_cons (pe_mkX (T.cl 14 _ rfl).mkx (okI14 F14) hr (by rfl) (T.mc 14 _ rfl) (bI14 F14) (by decide) pass0 (pa_cons (pv 0) pa_nil)) (pa_cons (pe_mkX (T.cl 15 _ rfl).mkx (okI15 F15) hr (by rfl) (T.mc 15 _ rfl) (bI15 F15) (by decide) pass0 (pa_cons (pv 0) pa_nil)) (pa_cons (pe_mkX (T.cl 16 _ rfl).mkx (okI16 F16) hr (by rfl) (T.mc 16 _ rfl) (bI16 F16) (by decide) pass0 (pa_cons (pv 0) pa_nil)) pa_nil)))))))))))
    (pss_one (ps_ret (pe_op op_cat (pv 1) (pe_lst (pa_cons (pe_mkX (T.cl 17 _ rfl).mkx (okI17 F17) hr (by rfl) (T.mc 17 _ rfl) (bI17 F17) (by decide) pass0 (pa_cons (pv 0) pa_nil)) (pa_cons (pe_mkX (T.cl 18 _ rfl).mkx (okI18 F18) hr (by rfl) (T.mc 18 _ rfl) (bI18 F18) (by decide) pass0 (pa_cons (pv 0) pa_nil)) (pa_cons (pe_mkX (T.cl 19 _ rfl).mkx (okI19 F19) hr (by rfl) (T.mc 19 _ rfl) (bI19 F19) (by decide) pass0 (pa_cons (pv 0) pa_nil)) (pa_cons (pe_mkX (T.cl 20 _ rfl).mkx (okI20 F20) hr (by rfl) (T.mc 20 _ rfl) (bI20 F20) (by decide) pass0 (pa_cons (pv 0) (pa_cons pe_int pa_nil))) (pa_cons (pe_mkX (T.cl 21 _ rfl).mkx (okI21 F21) hr (by rfl) (T.mc 21 _ rfl) (bI21 F21) (by decide) pass0 (pa_cons (pv 0) (pa_cons pe_int pa_nil))) (pa_cons (pe_mkX (T.cl 22 _ rfl).mkx (okI22 F22) hr (by rfl) (T.mc 22 _ rfl) (bI22 F22) (by decide) pass0 (pa_cons (pv 0) (pa_cons pe_int pa_nil))) pa_nil)))))))))))), ?_⟩
  obtain ⟨x, rfl, k⟩ := h
  refine seq_mk (mka_cons (mke0 (T.cl 0 ("NoStatement", []) rfl)) (mka_cons (mke0 (T.cl 1 ("NoState", []) rfl)) (mka_cons (mke1 (T.cl 2 ("NoRow", ["part"]) rfl) rfl) (mka_cons (mke1 (T.cl 3 ("NoNumber", ["part"]) rfl) rfl) (mka_cons (mke1 (T.cl 4 ("NoFill", ["part"]) rfl) rfl) (mka_cons (mke1 (T.cl 5 ("NoPhase", ["part"]) rfl) rfl) (mka_cons (mke1 (T.cl 6 ("NoRun", ["part"]) rfl) rfl) (mka_cons (mke1 (T.cl 7 ("NoKey", ["key"]) rfl) rfl) (mka_cons (mke1 (T.cl 8 ("NoDeed", ["deed"]) rfl) rfl) mka_nil))))))))) (Nat.le_of_ble_eq_true rfl) fun l0 us0 H0 n0 s0 e0 r0 => ?_
  refine seq_cat (mka_cons (mke1 (T.cl 9 ("NotNow", ["word"]) rfl) rfl) (mka_cons (mke1 (T.cl 10 ("NoDeeds", ["index"]) rfl) rfl) (mka_cons (mke1 (T.cl 11 ("NoMove", ["deed"]) rfl) rfl) (mka_cons (mke1 (T.cl 12 ("NoHistory", ["index"]) rfl) rfl) (mka_cons (mke1 (T.cl 13 ("NoTable", ["index"]) rfl) rfl) (mka_cons (mke1 (T.cl 14 ("TooMany", ["most"]) rfl) rfl) (mka_cons (mke1 (T.cl 15 ("NoWord", ["word"]) rfl) rfl) (mka_cons (mke1 (T.cl 16 ("NoOption", ["option"]) rfl) rfl) mka_nil)))))))) rfl e0 r0 (Nat.le_of_ble_eq_true rfl) (Nat.le_of_ble_eq_true rfl) fun l1 us1 H1 n1 s1 e1 r1 => ?_
  exact ret_cat (mka_cons (mke1 (T.cl 17 ("NoOptions", ["index"]) rfl) rfl) (mka_cons (mke1 (T.cl 18 ("NoText", ["line"]) rfl) rfl) (mka_cons (mke1 (T.cl 19 ("NoChange", ["word"]) rfl) rfl) (mka_cons (mke2 (w := .int 7) (T.cl 20 ("NoWriter", ["part", "index"]) rfl) rfl) (mka_cons (mke2 (w := .int 7) (T.cl 21 ("NoRollout", ["part", "index"]) rfl) rfl) (mka_cons (mke2 (w := .int 7) (T.cl 22 ("NoAnswer", ["part", "index"]) rfl) rfl) mka_nil)))))) rfl e1 r1 (Nat.le_of_ble_eq_true rfl) (Nat.le_of_ble_eq_true rfl) fun l us H' n s e r => k H' l us ((s0.trans s1).free n) ((s0.trans s1).trans s) e r
end
end K05

set_option maxRecDepth 100000
set_option maxHeartbeats 8000000
namespace K05
open PySem PySem.Spec PyProof.Rows L2 He VH
section
variable {P : Program} {w : World} {K : PySem.W.Frag} {mg : Str → Option Value} {base : Heap} {f : Addr} {fd : FuncData}
abbrev sName : Stmt := top 31
theorem scName : FnScope ["_law_x", "_law_some"] ["_law_x"] (defScope sName) := ⟨rfl, rfl, rfl, by decide +kernel, rfl, by decide +kernel, by decide +kernel⟩
theorem ok_Name {fd0 : FuncData} {fd1 : FuncData} {fd2 : FuncData} {fd3 : FuncData} {fd4 : FuncData} {fd5 : FuncData} {fd6 : FuncData} {fd7 : FuncData} {fd8 : FuncData} {fd9 : FuncData} {fd10 : FuncData} {fd11 : FuncData} {fd12 : FuncData} {fd13 : FuncData} {fd14 : FuncData} {fd15 : FuncData} {fd16 : FuncData} {fd17 : FuncData} {fd18 : FuncData} {fd19 : FuncData} {fd20 : FuncData} {fd21 : FuncData} {fd22 : FuncData} (F : FnP K "_law_by_name" sName f fd) (T : Txt K mg) (F0 : FnI K "NoStatement.__init__" 2 (ma K (ga K "NoStatement") "__init__") fd0) (F1 : FnI K "NoState.__init__" 14 (ma K (ga K "NoState") "__init__") fd1) (F2 : FnI K "NoRow.__init__" 3 (ma K (ga K "NoRow") "__init__") fd2) (F3 : FnI K "NoNumber.__init__" 4 (ma K (ga K "NoNumber") "__init__") fd3) (F4 : FnI K "NoFill.__init__" 6 (ma K (ga K "NoFill") "__init__") fd4) (F5 : FnI K "NoPhase.__init__" 7 (ma K (ga K "NoPhase") "__init__") fd5) (F6 : FnI K "NoRun.__init__" 9 (ma K (ga K "NoRun") "__init__") fd6) (F7 : FnI K "NoKey.__init__" 10 (ma K (ga K "NoKey") "__init__") fd7) (F8 : FnI K "NoDeed.__init__" 11 (ma K (ga K "NoDeed") "__init__") fd8) (F9 : FnI K "NotNow.__init__" 12 (ma K (ga K "NotNow") "__init__") fd9) (F10 : FnI K "NoDeeds.__init__" 13 (ma K (ga K "NoDeeds") "__init__") fd10) (F11 : FnI K "NoMove.__init__" 15 (ma K (ga K "NoMove") "__init__") fd11) (F12 : FnI K "NoHistory.__init__" 16 (ma K (ga K "NoHistory") "__init__") fd12) (F13 : FnI K "NoTable.__init__" 17 (ma K (ga K "NoTable") "__init__") fd13) (F14 : FnI K "TooMany.__init__" 18 (ma K (ga K "TooMany") "__init__") fd14) (F15 : FnI K "NoWord.__init__" 19 (ma K (ga K "NoWord") "__init__") fd15) (F16 : FnI K "NoOption.__init__" 21 (ma K (ga K "NoOption") "__init__") fd16) (F17 : FnI K "NoOptions.__init__" 22 (ma K (ga K "NoOptions") "__init__") fd17) (F18 : FnI K "NoText.__init__" 23 (ma K (ga K "NoText") "__init__") fd18) (F19 : FnI K "NoChange.__init__" 24 (ma K (ga K "NoChange") "__init__") fd19) (F20 : FnI K "NoWriter.__init__" 5 (ma K (ga K "NoWriter") "__init__") fd20) (F21 : FnI K "NoRollout.__init__" 8 (ma K (ga K "NoRollout") "__init__") fd21) (F22 : FnI K "NoAnswer.__init__" 20 (ma K (ga K "NoAnswer") "__init__") fd22) : FnOk P w K mg base CX0 3 f fd ["_law_x"] (spMade K) := by
  refine F.ok scName (fun vs H Q E h => ?_) (fun cdv A outer s H vs Q E hr h => ?_)
  · obtain ⟨x, rfl, _⟩ := h
    rfl
  refine ⟨_, PSs.nox (pss_cons (ps_set (i := 1) scName.nd rfl (Or.inl rfl) (pe_lst (pa_cons (pe_mkX0 (T.cl 0 _ rfl).mkx (okI0 F0) hr (by rfl) (T.mc 0 _ rfl) (bI0 F0) pass0) (pa_cons (pe_mkX0 (T.cl 1 _ rfl).mkx (okI1 F1) hr (by rfl) (T.mc 1 _ rfl) (bI1 F1) pass0) (pa_cons (pe_mkXK (T.cl 2 _ rfl).mkx (okI2 F2) hr (by rfl) (T.mc 2 _ rfl) (kI2 F2) pass0 (pk_cons (pv 0) pk_nil)) (pa_cons (pe_mkXK (T.cl 3 _ rfl).mkx (okI3 F3) hr (by rfl) (T.mc 3 _ rfl) (kI3 F3) pass0 (pk_cons (pv 0) pk_nil)) (pa_cons (pe_mkXK (T.cl 4 _ rfl).mkx (okI4 F4) hr (by rfl) (T.mc 4 _ rfl) (kI4 F4) pass0 (pk_cons (pv 0) pk_nil)) (pa_cons (pe_mkXK (T.cl 5 _ rfl).mkx (okI5 F5) hr (by rfl) (T.mc 5 _ rfl) (kI5 F5) pass0 (pk_cons (pv 0) pk_nil)) (pa_cons (pe_mkXK (T.cl 6 _ rfl).mkx (okI6 F6) hr (by rfl) (T.mc 6 _ rfl) (kI6 F6) pass0 (pk_cons (pv 0) pk_nil)) pa_nil)))))))))
    (pss_cons (ps_set (i := 1) scName.nd rfl (Or.inl rfl) (pe_op op_cat (pv 1) (pe_lst (pa_cons (pe_mkXK (T.cl 7 _ rfl).mkx (okI7 F7) hr (by rfl) (T.mc 7 _ rfl) (kI7 F7) pass0 (pk_cons (pv 0) pk_nil)) (pa_cons (pe_mkXK (T.cl 8 _ rfl).mkx (okI8 F8) hr (by rfl) (T.mc 8 _ rfl) (kI8 F8) pass0 (pk_cons (pv 0) pk_nil)) (pa_cons (pe_mkXK (T.cl 9 _ rfl).mkx (okI9 F9) hr (by rfl) (T.mc 9 _ rfl) (kI9 F9) pass0 (pk_cons (pv 0) pk_nil)) (pa_cons (pe_mkXK (T.cl 10 _ rfl).mkx (okI10 F10) hr (by rfl) (T.mc 10 _ rfl) (kI10 F10) pass0 (pk_cons (pv 0) pk_nil)) (pa_cons (pe_mkXK (T.cl 11 _ rfl).mkx (okI11 F11) hr (by rfl) (T.mc 11 _ rfl) (kI11 F11) pass0 (pk_cons (pv 0) pk_nil)) (pa_cons (pe_mkXK (T.cl 12 _ rfl).mkx (okI12 F12) hr (by rfl) (T.mc 12 _ rfl) (kI12 F12) pass0 (pk_cons (pv 0) pk_nil)) pa_nil)))))))))
    (pss_cons (ps_set (i := 1) scName.nd rfl (Or.inl rfl) (pe_op op_cat (pv 1) (pe_lst (pa_cons (pe_mkXK (T.cl 13 _ rfl).mkx (okI13 F13) hr (by rfl) (T.mc 13 _ rfl) (kI13 F13) pass0 (pk_cons (pv 0) pk_nil)) (pa_cons (pe_mkXK (T.cl 14 _ rfl).mkx (okI14 F14) hr (by rfl) (T.mc 14 _ rfl) (kI14 F14) pass0 (pk_cons (pv 0) pk_nil)) (pa_cons (pe_mkXK (T.cl 15 _ rfl).mkx (okI15 F15) hr (by rfl) (T.mc 15 _ rfl) (kI15 F15) pass0 (pk_cons (pv 0) pk_nil)) (pa_cons (pe_mkXK (T.cl 16 _ rfl).mkx (okI16 F16) hr (by rfl) (T.mc 16 _ rfl) (kI16 F16) pass0 (pk_cons (pv 0) pk_nil)) (pa_cons (pe_mkXK (T.cl 17 _ rfl).mkx (okI17 F17) hr (by rfl) (T.mc 17 _ rfl) (kI17 F17) pass0 (pk_cons (pv 0) pk_nil)) pa_nil))))))))
    (pss_cons (ps_set (i := 1) scName.nd rfl (Or.inl rfl) (pe_op op_cat (pv 1) (pe_lst (pa_cons (pe_mkXK (T.cl 18 _ rfl).mkx (okI18 F18) hr (by rfl) (T.mc 18 _ rfl) (kI18 F18) pass0 (pk_cons (pv 0) pk_nil)) (pa_cons (pe_mkXK (T.cl 19 _ rfl).mkx (okI19 F19) hr (by rfl) (T.mc 19 _ rfl) (kI19 F19) pass0 (pk_cons (pv 0) pk_nil)) (pa_cons (pe_mkXK (T.cl 20 _ rfl).mkx (okI20 F20) hr (by rfl) (T.mc 20 _ rfl) (kI20 F20) pass0 (pk_cons pe_int (pk_cons (pv 0) pk_nil))) (pa_cons (pe_mkXK (T.cl 21 _ rfl).mkx (okI21 F21) hr (by rfl) (T.mc 21 _ rfl) (kI21 F21) pass0 (pk_cons pe_int (pk_cons (pv 0) pk_nil))) pa_nil)))))))
    (pss_one (ps_ret (pe_op op_cat (pv 1) (pe_lst (pa_cons (pe_mkXK (T.cl 22 _ rfl).mkx (okI22 F22) hr (by rfl) (T.mc 22 _ rfl) (kI22 F22) pass0 (pk_cons pe_int (pk_cons (pv 0) pk_nil))) pa_nil))))))))), ?_⟩
  obtain ⟨x, rfl, k⟩ := h
  refine seq_mk (mka_cons (mke0 (T.cl 0 ("NoStatement", []) rfl)) (mka_cons (mke0 (T.cl 1 ("NoState", []) rfl)) (mka_cons (mkk1 (T.cl 2 ("NoRow", ["part"]) rfl) rfl) (mka_cons (mkk1 (T.cl 3 ("NoNumber", ["part"]) rfl) rfl) (mka_cons (mkk1 (T.cl 4 ("NoFill", ["part"]) rfl) rfl) (mka_cons (mkk1 (T.cl 5 ("NoPhase", ["part"]) rfl) rfl) (mka_cons (mkk1 (T.cl 6 ("NoRun", ["part"]) rfl) rfl) mka_nil))))))) (Nat.le_of_ble_eq_true rfl) fun l0 us0 H0 n0 s0 e0 r0 => ?_
  refine seq_cat (mka_cons (mkk1 (T.cl 7 ("NoKey", ["key"]) rfl) rfl) (mka_cons (mkk1 (T.cl 8 ("NoDeed", ["deed"]) rfl) rfl) (mka_cons (mkk1 (T.cl 9 ("NotNow", ["word"]) rfl) rfl) (mka_cons (mkk1 (T.cl 10 ("NoDeeds", ["index"]) rfl) rfl) (mka_cons (mkk1 (T.cl 11 ("NoMove", ["deed"]) rfl) rfl) (mka_cons (mkk1 (T.cl 12 ("NoHistory", ["index"]) rfl) rfl) mka_nil)))))) rfl e0 r0 (Nat.le_of_ble_eq_true rfl) (Nat.le_of_ble_eq_true rfl) fun l1 us1 H1 n1 s1 e1 r1 => ?_
  refine seq_cat (mka_cons (mkk1 (T.cl 13 ("NoTable", ["index"]) rfl) rfl) (mka_cons (mkk1 (T.cl 14 ("TooMany", ["most"]) rfl) rfl) (mka_cons (mkk1 (T.cl 15 ("NoWord", ["word"]) rfl) rfl) (mka_cons (mkk1 (T.cl 16 ("NoOption", ["option"]) rfl) rfl) (mka_cons (mkk1 (T.cl 17 ("NoOptions", ["index"]) rfl) rfl) mka_nil))))) rfl e1 r1 (Nat.le_of_ble_eq_true rfl) (Nat.le_of_ble_eq_true rfl) fun l2 us2 H2 n2 s2 e2 r2 => ?_
  refine seq_cat (mka_cons (mkk1 (T.cl 18 ("NoText", ["line"]) rfl) rfl) (mka_cons (mkk1 (T.cl 19 ("NoChange", ["word"]) rfl) rfl) (mka_cons (mkk2 (w := .int 7) (T.cl 20 ("NoWriter", ["part", "index"]) rfl) rfl) (mka_cons (mkk2 (w := .int 7) (T.cl 21 ("NoRollout", ["part", "index"]) rfl) rfl) mka_nil)))) rfl e2 r2 (Nat.le_of_ble_eq_true rfl) (Nat.le_of_ble_eq_true rfl) fun l3 us3 H3 n3 s3 e3 r3 => ?_
  exact ret_cat (mka_cons (mkk2 (w := .int 7) (T.cl 22 ("NoAnswer", ["part", "index"]) rfl) rfl) mka_nil) rfl e3 r3 (Nat.le_of_ble_eq_true rfl) (Nat.le_of_ble_eq_true rfl) fun l us H' n s e r => k H' l us ((((s0.trans s1).trans s2).trans s3).free n) ((((s0.trans s1).trans s2).trans s3).trans s) e r
end
end K05

set_option maxRecDepth 100000
set_option maxHeartbeats 8000000
namespace K05
open PySem PySem.Spec PyProof.Rows L2 He VH
abbrev sFields : Stmt := top 32
def spFields (K : PySem.W.Frag) : Sp := fun vs H Q _ => ∃ (l : Addr) (xs : List V) (x : V), vs = [.ref l] ∧ H l = some (.lst xs) ∧ ExL K H xs (specs x) ∧ ∀ (H' : Hp) (p : Addr), H p = none → Same H H' → H' p = some (.lst (List.replicate 21 x)) → Q (.ref p) H'
section
variable {P : Program} {w : World} {K K' : PySem.W.Frag} {mg : Str → Option Value} {base : Heap} {f : Addr} {fd : FuncData}
def FdE (x : V) (σ : L2.St) (H : Hp) (te : TE) : Prop := ∀ Q : VK, Q x H → te σ H Q
def FdA (x : V) (σ : L2.St) (H : Hp) (t : TA) (n : Nat) : Prop := ∀ Q : List V → Hp → Prop, Q (List.replicate n x) H → t σ H Q
theorem fda_nil {x : V} {σ : L2.St} {H : Hp} : FdA x σ H tNil 0 := fun Q h => h
theorem fda_cons {x : V} {σ : L2.St} {H : Hp} {te : TE} {t : TA} {n : Nat} (a : FdE x σ H te) (b : FdA x σ H t n) : FdA x σ H (tCons te t) (n + 1) := fun Q h => a _ (b _ h)
theorem fde {x : V} {σ : L2.St} {H : Hp} {l : Addr} {xs : List V} {i : Nat} {c : Str × List Str} (T : Txt K mg) (hl : H l = some (.lst xs)) (e : ExL K H xs (specs x)) (hc : cls[i]? = some c) (hs : (specs x)[i]? = some (c.1, (c.2.zip [x, .int 7]).reverse)) {f : Str} (hf : f ∈ c.2)
    (lk : (c.2.zip [x, V.int 7]).reverse.lookup f = some x) (h0 : σ[0]? = some (some (.ref l))) {j : Int} (ej : j = (i : Int) := by rfl) (eK : K' = K := by rfl) : FdE x σ H (tExF K' f (tOp (rIxL K') (tVar 0) (tC (.int j)))) := fun Q h => by
  subst eK
  subst ej
  obtain ⟨a, ha, is⟩ := e.at hs
  exact ⟨_, h0, l, xs, _, .ref a, rfl, rfl, SqL.of hl, atI_nat ha, a, ga K' c.1, _, x, rfl, (T.cl i c hc).xf, (T.cl i c hc).no f hf, is, lk, h⟩
theorem fd_lst {x : V} {σ : L2.St} {H : Hp} {t : TA} {n : Nat} {Q : VK} (r : FdA x σ H t n) (few : n ≤ 1000) (k : ∀ p H', H p = none → Same H H' → H' p = some (.lst (List.replicate n x)) → Q (.ref p) H') : tLst t σ H Q :=
  r _ ⟨by rw [List.length_replicate, sizeLine_eq]; omega, fun p hp => k p _ hp (Same.new hp) upd_same⟩
theorem fd_cat {x : V} {σ : L2.St} {H : Hp} {t : TA} {m n i : Nat} {l : Addr} {Q : VK} (r : FdA x σ H t n) (hi : σ[i]? = some (some (.ref l))) (hl : H l = some (.lst (List.replicate m x))) (few : m + n ≤ 1000)
    (k : ∀ p H', H p = none → Same H H' → H' p = some (.lst (List.replicate (m + n) x)) → Q (.ref p) H') : tOp rCat (tVar i) (tLst t) σ H Q :=
  ⟨_, hi, fd_lst r (by omega) fun p H1 _ s1 e1 => ⟨l, p, _, _, rfl, rfl, s1 _ _ hl, e1, by rw [List.length_replicate, List.length_replicate, sizeLine_eq]; omega, fun q hq => k q _ (s1.free hq) (s1.trans (Same.new hq)) (by
    rw [upd_same, List.replicate_append_replicate])⟩⟩
theorem seq_fd {x : V} {σ : L2.St} {H : Hp} {t : TA} {n i : Nat} {u : TS} {D : Ends} (r : FdA x σ H t n) (few : n ≤ 1000) (k : ∀ p H', H p = none → Same H H' → H' p = some (.lst (List.replicate n x)) → u D (σ.set i (some (.ref p))) H') : tSeq (tAsg (tLst t) (gName i)) u D σ H :=
  fd_lst (Q := fun y H1 => gName i y σ H1 (u D)) r few k
theorem seq_fdcat {x : V} {σ : L2.St} {H : Hp} {t : TA} {m n i : Nat} {l : Addr} {u : TS} {D : Ends} (r : FdA x σ H t n) (hi : σ[i]? = some (some (.ref l))) (hl : H l = some (.lst (List.replicate m x))) (few : m + n ≤ 1000)
    (k : ∀ p H', H p = none → Same H H' → H' p = some (.lst (List.replicate (m + n) x)) → u D (σ.set i (some (.ref p))) H') : tSeq (tAsg (tOp rCat (tVar i) (tLst t)) (gName i)) u D σ H :=
  fd_cat (Q := fun y H1 => gName i y σ H1 (u D)) r hi hl few k
theorem ret_fdcat {x : V} {σ : L2.St} {H : Hp} {t : TA} {m n i : Nat} {l : Addr} {D : Ends} (r : FdA x σ H t n) (hi : σ[i]? = some (some (.ref l))) (hl : H l = some (.lst (List.replicate m x))) (few : m + n ≤ 1000)
    (k : ∀ p H', H p = none → Same H H' → H' p = some (.lst (List.replicate (m + n) x)) → D.rt (.ref p) H') : tRet (tOp rCat (tVar i) (tLst t)) D σ H :=
  fd_cat (Q := D.rt) r hi hl few k
theorem scFields : FnScope ["_law_e", "_law_found"] ["_law_e"] (defScope sFields) := ⟨rfl, rfl, rfl, by decide +kernel, rfl, by decide +kernel, by decide +kernel⟩
theorem ok_fields (F : FnP K "_law_fields" sFields f fd) (T : Txt K mg) : FnOk P w K mg base CX0 1 f fd ["_law_e"] (spFields K) := by
  refine F.ok scFields (fun vs H Q E h => ?_) (fun cdv A outer s H vs Q E hr h => ?_)
  · obtain ⟨l, xs, x, rfl, _⟩ := h
    rfl
  refine ⟨_, PSs.nox (pss_cons (ps_set (i := 1) scFields.nd rfl (Or.inl rfl) (pe_lst (pa_cons (pe_exF (pe_ix ix_list (pv 0) pe_int (fun _ _ => rfl))) (pa_cons (pe_exF (pe_ix ix_list (pv 0) pe_int (fun _ _ => rfl))) (pa_cons (pe_exF (pe_ix ix_list (pv 0) pe_int (fun _ _ => rfl))) (pa_cons (pe_exF (pe_ix ix_list (pv 0) pe_int (fun _ _ => rfl))) (pa_cons (pe_exF (pe_ix ix_list (pv 0) pe_int (fun _ _ => rfl))) (pa_cons (pe_exF (pe_ix ix_list (pv 0) pe_int (fun _ _ => rfl))) (pa_cons (pe_exF (pe_ix ix_list (pv 0) pe_int (fun _ _ => rfl))) (pa_cons (pe_exF (pe_ix ix_list (pv 0) pe_int (fun _ _ => rfl))) (pa_cons (pe_exF (pe_ix ix_list (pv 0) pe_int (fun _ _ => rfl))) pa_nil)))))))))))
    (pss_cons (ps_set (i := 1) scFields.nd rfl (Or.inl rfl) (pe_op op_cat (pv 1) (pe_lst (pa_cons (pe_exF (pe_ix ix_list (pv 0) pe_int (fun _ _ => rfl))) (pa_cons (pe_exF (pe_ix ix_list (pv 0) pe_int (fun _ _ => rfl))) (pa_cons (pe_exF (pe_ix ix_list (pv 0) pe_int (fun _ _ => rfl))) (pa_cons (pe_exF (pe_ix ix_list (pv 0) pe_int (fun _ _ => rfl))) (pa_cons (pe_exF (pe_ix ix_list (pv 0) pe_int (fun _ _ => rfl))) (pa_cons (pe_exF (pe_ix ix_list (pv 0) pe_int (fun _ _ => rfl))) (pa_cons (pe_exF (pe_ix ix_list (pv 0) pe_int (fun _ _ => rfl))) pa_nil))))))))))
    (pss_one (ps_ret (pe_op op_cat (pv 1) (pe_lst (pa_cons (pe_exF (pe_ix ix_list (pv 0) pe_int (fun _ _ => rfl))) (pa_cons (pe_exF (pe_ix ix_list (pv 0) pe_int (fun _ _ => rfl))) (pa_cons (pe_exF (pe_ix ix_list (pv 0) pe_int (fun _ _ => rfl))) (pa_cons (pe_exF (pe_ix ix_list (pv 0) pe_int (fun _ _ => rfl))) (pa_cons (pe_exF (pe_ix ix_list (pv 0) pe_int (fun _ _ => rfl))) pa_nil))))))))))), ?_⟩
  obtain ⟨l, xs, x, rfl, hl, e, k⟩ := h
  refine seq_fd (fda_cons (fde (i := 2) (c := ("NoRow", ["part"])) T hl e rfl rfl (f := "part") (by simp) rfl rfl) (fda_cons (fde (i := 3) (c := ("NoNumber", ["part"])) T hl e rfl rfl (f := "part") (by simp) rfl rfl) (fda_cons (fde (i := 4) (c := ("NoFill", ["part"])) T hl e rfl rfl (f := "part") (by simp) rfl rfl) (fda_cons (fde (i := 5) (c := ("NoPhase", ["part"])) T hl e rfl rfl (f := "part") (by simp) rfl rfl) (fda_cons (fde (i := 6) (c := ("NoRun", ["part"])) T hl e rfl rfl (f := "part") (by simp) rfl rfl) (fda_cons (fde (i := 7) (c := ("NoKey", ["key"])) T hl e rfl rfl (f := "key") (by simp) rfl rfl) (fda_cons (fde (i := 8) (c := ("NoDeed", ["deed"])) T hl e rfl rfl (f := "deed") (by simp) rfl rfl) (fda_cons (fde (i := 9) (c := ("NotNow", ["word"])) T hl e rfl rfl (f := "word") (by simp) rfl rfl) (fda_cons (fde (i := 10) (c := ("NoDeeds", ["index"])) T hl e rfl rfl (f := "index") (by simp) rfl rfl) fda_nil))))))))) (Nat.le_of_ble_eq_true rfl) fun p0 H0 n0 s0 e0 => ?_
  have hl0 := s0 _ _ hl
  have r0 := e.same s0
  refine seq_fdcat (m := 9) (fda_cons (fde (i := 11) (c := ("NoMove", ["deed"])) T hl0 r0 rfl rfl (f := "deed") (by simp) rfl rfl) (fda_cons (fde (i := 12) (c := ("NoHistory", ["index"])) T hl0 r0 rfl rfl (f := "index") (by simp) rfl rfl) (fda_cons (fde (i := 13) (c := ("NoTable", ["index"])) T hl0 r0 rfl rfl (f := "index") (by simp) rfl rfl) (fda_cons (fde (i := 14) (c := ("TooMany", ["most"])) T hl0 r0 rfl rfl (f := "most") (by simp) rfl rfl) (fda_cons (fde (i := 15) (c := ("NoWord", ["word"])) T hl0 r0 rfl rfl (f := "word") (by simp) rfl rfl) (fda_cons (fde (i := 16) (c := ("NoOption", ["option"])) T hl0 r0 rfl rfl (f := "option") (by simp) rfl rfl) (fda_cons (fde (i := 17) (c := ("NoOptions", ["index"])) T hl0 r0 rfl rfl (f := "index") (by simp) rfl rfl) fda_nil))))))) rfl e0 (Nat.le_of_ble_eq_true rfl) fun p1 H1 n1 s1 e1 => ?_
  have hl1 := s1 _ _ hl0
  have r1 := r0.same s1
  exact ret_fdcat (m := 16) (fda_cons (fde (i := 18) (c := ("NoText", ["line"])) T hl1 r1 rfl rfl (f := "line") (by simp) rfl rfl) (fda_cons (fde (i := 19) (c := ("NoChange", ["word"])) T hl1 r1 rfl rfl (f := "word") (by simp) rfl rfl) (fda_cons (fde (i := 20) (c := ("NoWriter", ["part", "index"])) T hl1 r1 rfl rfl (f := "part") (by simp) rfl rfl) (fda_cons (fde (i := 21) (c := ("NoRollout", ["part", "index"])) T hl1 r1 rfl rfl (f := "part") (by simp) rfl rfl) (fda_cons (fde (i := 22) (c := ("NoAnswer", ["part", "index"])) T hl1 r1 rfl rfl (f := "part") (by simp) rfl rfl) fda_nil))))) rfl e1 (Nat.le_of_ble_eq_true rfl) fun p H' n s' e' => k H' p ((s0.trans s1).free n) ((s0.trans s1).trans s') e'
end
end K05

set_option maxRecDepth 100000
set_option maxHeartbeats 8000000
namespace K05
open PySem PySem.Spec PyProof.Rows L2 He VH
abbrev sCaught : Stmt := top 33
abbrev nCaught : List Str := ["_law_turn", "_law_x", "_law_e"]
/-- what the three turns hand back -/
def caught (t : Nat) (x : V) : List V := match t with
  | 0 => [.str "row", x]
  | 1 => [.str "now", x]
  | _ => [.str "any", .bl true]
def spCaught : Sp := fun vs H Q _ => ∃ (t : Nat) (x : V), vs = [.int t, x] ∧ t < 3 ∧ ∀ (H' : Hp) (p : Addr), H p = none → Same H H' → H' p = some (.tup (caught t x)) → Q (.ref p) H'
section
variable {P : Program} {w : World} {K : PySem.W.Frag} {mg : Str → Option Value} {base : Heap} {f : Addr} {fd fd2 fd9 fd22 : FuncData}
theorem scCaught : FnScope nCaught ["_law_turn", "_law_x"] (defScope sCaught) := ⟨rfl, rfl, rfl, by decide +kernel, rfl, by decide +kernel, by decide +kernel⟩
theorem ok_caught (F : FnP K "_law_caught" sCaught f fd) (T : Txt K mg) (F2 : FnI K "NoRow.__init__" 3 (ma K (ga K "NoRow") "__init__") fd2) (F9 : FnI K "NotNow.__init__" 12 (ma K (ga K "NotNow") "__init__") fd9)
    (F22 : FnI K "NoAnswer.__init__" 20 (ma K (ga K "NoAnswer") "__init__") fd22) : FnOk P w K mg base CX0 3 f fd ["_law_turn", "_law_x"] spCaught := by
  have T2 := T.cl 2 ("NoRow", ["part"]) rfl
  have T9 := T.cl 9 ("NotNow", ["word"]) rfl
  have T22 := T.cl 22 ("NoAnswer", ["part", "index"]) rfl
  have b2 := FunD.bindsN (ps := ["self", "part"]) F2 fun _ _ _ _ _ _ us hl => match us, hl with | [_, _], _ => rfl
  have b9 := FunD.bindsN (ps := ["self", "word"]) F9 fun _ _ _ _ _ _ us hl => match us, hl with | [_, _], _ => rfl
  have b22 := FunD.bindsN (ps := ["self", "part", "index"]) F22 fun _ _ _ _ _ _ us hl => match us, hl with | [_, _, _], _ => rfl
  refine F.ok scCaught (fun vs H Q E h => ?_) (fun cdv A outer s H vs Q E hr h => ?_)
  · obtain ⟨t, x, rfl, _⟩ := h
    rfl
  refine ⟨_, PSs.nox (pss_one (ps_try_mix (Wout := fun _ _ _ _ => False) rfl rfl takes_none5
    (fun W pn xe tk _ => pss_cons (ps_if (pt_cmpR op_eq (pv 0) pe_int (nomark _)) (pss_one (ps_raise rfl tk (pmk_oex T2.mkx.toOexC T2.mkx.ini T2.mkx.tyI (okI2 F2) hr b2 .nil pass0 (by rfl) (T.mc 2 _ rfl) (pa_cons (pv 1) pa_nil)))) pss_nil)
      (pss_cons (ps_if (pt_cmpR op_eq (pv 0) pe_int (nomark _)) (pss_one (ps_raise rfl tk (pmk_oex T9.mkx.toOexC T9.mkx.ini T9.mkx.tyI (okI9 F9) hr b9 .nil pass0 (by rfl) (T.mc 9 _ rfl) (pa_cons (pv 1) pa_nil)))) pss_nil)
      (pss_one (ps_raise rfl tk (pmk_oex T22.mkx.toOexC T22.mkx.ini T22.mkx.tyI (okI22 F22) hr b22 .nil pass0 (by rfl) (T.mc 22 _ rfl) (pa_cons (pv 1) (pa_cons pe_int pa_nil)))))))
    (.named (i := 2) scCaught.nd rfl rfl ⟨rfl, by decide, .inl (T.mc 9 _ rfl)⟩ (fun a oe cls d pn hz hf => pss_one (ps_ret (pe_tup (pa_cons pe_str (pa_cons (pe_xf T9.xf (T9.no "word" (by simp)) hz hf (pv 2)) pa_nil)))))
    (.named (i := 2) scCaught.nd rfl rfl ⟨rfl, by decide, .inl (T.mc 2 _ rfl)⟩ (fun a oe cls d pn hz hf => pss_one (ps_ret (pe_tup (pa_cons pe_str (pa_cons (pe_xf T2.xf (T2.no "part" (by simp)) hz hf (pv 2)) pa_nil)))))
    (.named (i := 2) scCaught.nd rfl rfl ⟨rfl, by decide, .inl T.mF⟩ (fun a oe cls d pn hz hf => pss_one (ps_ret (pe_tup (pa_cons pe_str (pa_cons (pe_callB (call_isD hz hf) (by rfl) T.gS boot_isinstance (pa_cons (pv 2) (pa_cons (pe_glob (v := .ref (ga K "NoAnswer")) (by rfl) (T.mc 22 _ rfl) rfl) pa_nil))) pa_nil))))) .nil))))), ?_⟩
  obtain ⟨t, x, rfl, lt, k⟩ := h
  have m2 : ([2, 9, 22] : List Nat).contains 2 = true := rfl
  match t, lt with
  | 0, _ =>
    refine ⟨_, rfl, rfl, _, rfl, iteT ?_⟩
    refine ⟨_, rfl, (show 1 ≤ 1000 by decide), fun a n => read_rz T2 [x] n rfl rfl (by simp) rfl fun d H2 e1 e2 nd s => ⟨rfl, d, _, e1, e2, nd, ?_⟩⟩
    refine ⟨false, T.xm 2 9 (by decide) (by decide), fun q => Bool.noConfusion q, fun _ => ⟨true, T.xm 2 2 (by decide) (by decide), fun _ a ha => ?_, fun q => Bool.noConfusion q⟩⟩
    exact ⟨_, rfl, rfl, rfl, d, _, x, rfl, upd_same, rfl, (show 2 ≤ sizeLine by decide), fun p hp => k _ p (s.free hp) (s.trans (Same.new hp)) upd_same⟩
  | 1, _ =>
    refine ⟨_, rfl, rfl, _, rfl, iteF ?_⟩
    refine ⟨_, rfl, rfl, _, rfl, iteT ?_⟩
    refine ⟨_, rfl, (show 1 ≤ 1000 by decide), fun a n => read_rz T9 [x] n rfl rfl (by simp) rfl fun d H2 e1 e2 nd s => ⟨rfl, d, _, e1, e2, nd, ?_⟩⟩
    refine ⟨true, T.xm 9 9 (by decide) (by decide), fun _ a ha => ?_, fun q => Bool.noConfusion q⟩
    exact ⟨_, rfl, rfl, rfl, d, _, x, rfl, upd_same, rfl, (show 2 ≤ sizeLine by decide), fun p hp => k _ p (s.free hp) (s.trans (Same.new hp)) upd_same⟩
  | 2, _ =>
    refine ⟨_, rfl, rfl, _, rfl, iteF ?_⟩
    refine ⟨_, rfl, rfl, _, rfl, iteF ?_⟩
    refine ⟨_, rfl, (show 2 ≤ 1000 by decide), fun a n => read_rz T22 [x, .int 7] n rfl rfl (by simp) rfl fun d H2 e1 e2 nd s => ⟨rfl, d, _, e1, e2, nd, ?_⟩⟩
    refine ⟨false, T.xm 22 9 (by decide) (by decide), fun q => Bool.noConfusion q, fun _ => ⟨false, T.xm 22 2 (by decide) (by decide), fun q => Bool.noConfusion q, fun _ => ⟨true, T.xf 22 (by decide), fun _ a ha => ?_, fun q => Bool.noConfusion q⟩⟩⟩
    exact ⟨_, rfl, ga K "NoAnswer", d, _, _, _, true, rfl, rfl, rfl, upd_same, T.ec 22 _ rfl, fun u e => e, T.kit 22 22 (by decide) (by decide), (show 2 ≤ sizeLine by decide), fun p hp => k _ p (s.free hp) (s.trans (Same.new hp)) upd_same⟩
end
end K05

set_option maxRecDepth 100000
set_option maxHeartbeats 4000000
namespace K05
open PySem PySem.Spec PyProof.Rows L2 He VH
section
variable {K : PySem.W.Frag} {v0 v1 v2 v3 v4 v5 v6 v7 v8 : Option V} {H : Hp} {Q : VK}
theorem place_eq {i j : Nat} : V.bl (decide (V.int (0 + (j : Int)) = V.int (i : Int))) = V.bl (i == j) := by
  congr 1
  by_cases e : i = j
  · subst e
    simp
  · have h : ¬ V.int (0 + (j : Int)) = V.int (i : Int) := fun z => e (by
      injection z with z
      omega)
    rw [decide_eq_false h]
    exact (beq_eq_false_iff_ne.mpr e).symm
theorem same_app {H H1 : Hp} {D : Addr} {o : HO} (s : Same H H1) (n : H D = none) : Same H (upd H1 D o) := fun b u e => by
  rw [upd_ne (ne_of_none e n)]
  exact s b u e
theorem lc_places {i : Nat} (k : ∀ D H', H D = none → Same H H' → H' D = some (.lst (kinds i)) → Q (.ref D) H') :
    tLc (iRng1 (tCons (tC (.int 23)) tNil)) (gName 7) tYes (tOp rEq (tVar 7) (tVar 5)) [7] [v0, v1, v2, v3, v4, some (.int i), v6, v7, v8] H Q := by
  refine ⟨23, rfl, by decide, by decide, fun D nD => ?_⟩
  refine lc_range (lo := 0) (n := 23) (fun j G => G D = some (.lst ((List.range j).map fun q => .bl (i == q))) ∧ Same H G) ⟨upd_same, Same.new nD⟩ (fun j G lt p => ?_) (fun G p => k D G nD p.2 p.1)
  obtain ⟨p1, p2⟩ := p
  refine ⟨rfl, ?_⟩
  refine ⟨_, rfl, _, rfl, rfl, _, p1, ?_, ?_, same_app p2 nD⟩
  · rw [List.length_map, List.length_range, sizeLine_eq]
    omega
  · rw [place_eq, List.range_succ, List.map_append]
    exact upd_same
theorem lc_caught {x : V} (k : ∀ D (a b c : Addr) H', H D = none → Same H H' → H' D = some (.lst [.ref a, .ref b, .ref c]) → H' a = some (.tup (caught 0 x)) → H' b = some (.tup (caught 1 x)) → H' c = some (.tup (caught 2 x)) → Q (.ref D) H') :
    tLc (iRng1 (tCons (tC (.int 3)) tNil)) (gName 8) tYes (tCall spCaught [] E0 (tCons (tVar 8) (tCons (tVar 3) tNil))) [8] [v0, v1, v2, some x, v4, v5, v6, v7, v8] H Q := by
  refine ⟨3, rfl, by decide, by decide, fun D nD => ?_⟩
  refine lc_range (lo := 0) (n := 3) (fun j G => ∃ f : Nat → Addr, G D = some (.lst ((List.range j).map fun q => .ref (f q))) ∧ Same H G ∧ ∀ q, q < j → G (f q) = some (.tup (caught q x)))
    ⟨fun _ => 0, upd_same, Same.new nD, fun q h => absurd h (Nat.not_lt_zero q)⟩ (fun j G lt p => ?_) (fun G p => ?_)
  · obtain ⟨f, p1, p2, p3⟩ := p
    refine ⟨rfl, ?_⟩
    refine ⟨_, rfl, _, rfl, j, x, by rw [Int.zero_add]; rfl, lt, fun G' p n s e => ?_⟩
    refine ⟨_, s _ _ p1, ?_, fun q => if q = j then p else f q, ?_, same_app (p2.trans s) nD, fun q hq => ?_⟩
    · rw [List.length_map, List.length_range, sizeLine_eq]
      omega
    · rw [upd_same, List.range_succ, List.map_append]
      congr 2
      congr 1
      · refine List.map_congr_left fun q hq => ?_
        have : q ≠ j := Nat.ne_of_lt (List.mem_range.mp hq)
        show V.ref (f q) = V.ref (if q = j then p else f q)
        rw [if_neg this]
      · show [V.ref p] = [V.ref (if j = j then p else f j)]
        rw [if_pos rfl]
    · have nd : ∀ {b : Addr} {u : List V}, G' b = some (.tup u) → b ≠ D := fun {b u} e z => by
        rw [z, s _ _ p1] at e
        cases e
      by_cases z : q = j
      · subst z
        show upd G' D _ (if q = q then p else f q) = _
        rw [if_pos rfl, upd_ne (nd e)]
        exact e
      · show upd G' D _ (if q = j then p else f q) = _
        have eq := s _ _ (p3 q (by omega))
        rw [if_neg z, upd_ne (nd eq)]
        exact eq
  · obtain ⟨f, p1, p2, p3⟩ := p
    exact k D (f 0) (f 1) (f 2) G nD p2 p1 (p3 0 (by decide)) (p3 1 (by decide)) (p3 2 (by decide))
theorem lc_index {K' : PySem.W.Frag} {mg : Str → Option Value} {x : V} {l : Addr} {xs : List V} (T : Txt K mg) (eK : K' = K) (hl : H l = some (.lst xs)) (e : ExL K H xs (specs x)) (k : ∀ D H', H D = none → Same H H' → H' D = some (.lst [.int 7, .int 7, .int 7]) → Q (.ref D) H') :
    tLc (iList K' (tSl (rSlL K') (tVar 4) (tPart (tC (.int 20))) tNoPart)) (gName 6) tYes (tExF K "index" (tVar 6)) [6] [v0, v1, v2, v3, some (.ref l), v5, v6, v7, v8] H Q := by
  subst eK
  have len : xs.length = 23 := e.len
  obtain ⟨a0, x0, i0⟩ := e.at (i := 20) (c := ("NoWriter", [("index", .int 7), ("part", x)])) rfl
  obtain ⟨a1, x1, i1⟩ := e.at (i := 21) (c := ("NoRollout", [("index", .int 7), ("part", x)])) rfl
  obtain ⟨a2, x2, i2⟩ := e.at (i := 22) (c := ("NoAnswer", [("index", .int 7), ("part", x)])) rfl
  have cut : cutV xs (some 20) none = [.ref a0, .ref a1, .ref a2] := by
    apply List.ext_getElem?
    intro j
    have e1 : HT.sIx xs.length 0 (some 20) = 20 := by rw [len]; rfl
    have e2 : HT.sIx xs.length xs.length none = 23 := by rw [len]; rfl
    unfold cutV
    rw [e1, e2]
    match j with
    | 0 => rw [List.getElem?_take_of_lt (by omega), List.getElem?_drop, x0]; rfl
    | 1 => rw [List.getElem?_take_of_lt (by omega), List.getElem?_drop, x1]; rfl
    | 2 => rw [List.getElem?_take_of_lt (by omega), List.getElem?_drop, x2]; rfl
    | j + 3 => rw [List.getElem?_eq_none (by rw [List.length_take]; omega)]; rfl
  refine ⟨_, rfl, _, rfl, l, xs, rfl, SqL.of hl, fun p np => ?_⟩
  rw [cut]
  refine ⟨p, rfl, ⟨_, SqL.of upd_same⟩, fun D nD => ?_⟩
  have s0 : Same H (upd H p (.lst [.ref a0, .ref a1, .ref a2])) := Same.new np
  have hp : upd H p (.lst [.ref a0, .ref a1, .ref a2]) p = some (.lst [.ref a0, .ref a1, .ref a2]) := upd_same
  generalize upd H p (.lst [.ref a0, .ref a1, .ref a2]) = H1 at *
  refine lc_list (K := K') (a := p) (xs := [.ref a0, .ref a1, .ref a2]) (fun j G => G D = some (.lst (List.replicate j (.int 7))) ∧ Same H1 G) ⟨upd_same, Same.new nD⟩ (fun j G _ q => SqL.of (q.2 _ _ hp)) (fun j y G hy q => ?_) (fun G q => k D G (s0.free nD) (s0.trans q.2) q.1)
  obtain ⟨q1, q2⟩ := q
  refine ⟨rfl, ?_⟩
  have fin : ∃ acc : List V, G D = some (.lst acc) ∧ acc.length < sizeLine ∧ (upd G D (.lst (acc ++ [.int 7]))) D = some (.lst (List.replicate (j + 1) (.int 7))) ∧ Same H1 (upd G D (.lst (acc ++ [.int 7]))) := by
    refine ⟨_, q1, ?_, ?_, same_app q2 nD⟩
    · have : j < 3 := by
        have := (List.getElem?_eq_some_iff.mp hy).1
        simpa using this
      rw [List.length_replicate, sizeLine_eq]
      omega
    · rw [upd_same, List.replicate_succ']
  match j, hy, fin with
  | 0, hy, fin =>
    cases hy
    exact ⟨_, rfl, a0, _, _, .int 7, rfl, (T.cl 20 ("NoWriter", ["part", "index"]) rfl).xf, (T.cl 20 ("NoWriter", ["part", "index"]) rfl).no "index" (by simp), (i0.same s0).same q2, rfl, fin⟩
  | 1, hy, fin =>
    cases hy
    exact ⟨_, rfl, a1, _, _, .int 7, rfl, (T.cl 21 ("NoRollout", ["part", "index"]) rfl).xf, (T.cl 21 ("NoRollout", ["part", "index"]) rfl).no "index" (by simp), (i1.same s0).same q2, rfl, fin⟩
  | 2, hy, fin =>
    cases hy
    exact ⟨_, rfl, a2, _, _, .int 7, rfl, (T.cl 22 ("NoAnswer", ["part", "index"]) rfl).xf, (T.cl 22 ("NoAnswer", ["part", "index"]) rfl).no "index" (by simp), (i2.same s0).same q2, rfl, fin⟩
end
end K05

set_option maxRecDepth 100000
set_option maxHeartbeats 8000000
namespace K05
open PySem PySem.Spec PyProof.Rows L2 He VH
abbrev sLaw : Stmt := top 34
abbrev nLaw : List Str := ["_law_script", "_law_k", "_law_well_here", "_law_x", "_law_some", "_law_at", "_law_one_here", "_law_place", "_law_turn"]
theorem test_of {t : TE} {σ : L2.St} {H : Hp} {Q : Bool → Hp → Prop} (h : t σ H fun x H' => ∃ k, x = .bl k ∧ Q k H') : tTest t σ H Q := h
theorem op_of {r : R2} {ta tb : TE} {σ : L2.St} {H : Hp} {Q : VK} (h : ta σ H fun x H1 => tb σ H1 fun y H2 => r x y H2 Q) : tOp r ta tb σ H Q := h
theorem if_of {c : TT} {t u : TS} {D : Ends} {σ : L2.St} {H : Hp} (h : c σ H fun b H1 => if b = true then t D σ H1 else u D σ H1) : tIfS c t u D σ H := h
def spLaw (K : PySem.W.Frag) : Sp := fun vs H Q _ => ∃ (a : Addr) (ns : List Int), vs = [.ref a] ∧ SqL K H a (ns.map V.int) ∧ ns.length ≤ 63 ∧ ∀ H', Q (.bl true) H'
section
variable {P : Program} {w : World} {K : PySem.W.Frag} {mg : Str → Option Value} {base : Heap} {f fDr fWe fOn fKi fPl fNa fFi fCa : Addr} {fd dDr dWe dOn dKi dPl dNa dFi dCa : FuncData}
theorem scLaw : FnScope nLaw ["_law_script"] (defScope sLaw) := ⟨rfl, rfl, rfl, by decide +kernel, rfl, by decide +kernel, by decide +kernel⟩
theorem ok_law {fd0 : FuncData} {fd1 : FuncData} {fd2 : FuncData} {fd3 : FuncData} {fd4 : FuncData} {fd5 : FuncData} {fd6 : FuncData} {fd7 : FuncData} {fd8 : FuncData} {fd9 : FuncData} {fd10 : FuncData} {fd11 : FuncData} {fd12 : FuncData} {fd13 : FuncData} {fd14 : FuncData} {fd15 : FuncData} {fd16 : FuncData} {fd17 : FuncData} {fd18 : FuncData} {fd19 : FuncData} {fd20 : FuncData} {fd21 : FuncData} {fd22 : FuncData} (F : FnP K "law" sLaw f fd) (T : Txt K mg) (XDr : FnP K "_law_draw" sDraw fDr dDr) (XWe : FnP K "_law_well" sWell fWe dWe) (XOn : FnP K "_law_one" sOne fOn dOn) (XKi : FnP K "_law_kinds" sKinds fKi dKi) (XPl : FnP K "_law_by_place" sPlace fPl dPl)
    (XNa : FnP K "_law_by_name" sName fNa dNa) (XFi : FnP K "_law_fields" sFields fFi dFi) (XCa : FnP K "_law_caught" sCaught fCa dCa) (F0 : FnI K "NoStatement.__init__" 2 (ma K (ga K "NoStatement") "__init__") fd0) (F1 : FnI K "NoState.__init__" 14 (ma K (ga K "NoState") "__init__") fd1) (F2 : FnI K "NoRow.__init__" 3 (ma K (ga K "NoRow") "__init__") fd2) (F3 : FnI K "NoNumber.__init__" 4 (ma K (ga K "NoNumber") "__init__") fd3) (F4 : FnI K "NoFill.__init__" 6 (ma K (ga K "NoFill") "__init__") fd4) (F5 : FnI K "NoPhase.__init__" 7 (ma K (ga K "NoPhase") "__init__") fd5) (F6 : FnI K "NoRun.__init__" 9 (ma K (ga K "NoRun") "__init__") fd6) (F7 : FnI K "NoKey.__init__" 10 (ma K (ga K "NoKey") "__init__") fd7) (F8 : FnI K "NoDeed.__init__" 11 (ma K (ga K "NoDeed") "__init__") fd8) (F9 : FnI K "NotNow.__init__" 12 (ma K (ga K "NotNow") "__init__") fd9) (F10 : FnI K "NoDeeds.__init__" 13 (ma K (ga K "NoDeeds") "__init__") fd10) (F11 : FnI K "NoMove.__init__" 15 (ma K (ga K "NoMove") "__init__") fd11) (F12 : FnI K "NoHistory.__init__" 16 (ma K (ga K "NoHistory") "__init__") fd12) (F13 : FnI K "NoTable.__init__" 17 (ma K (ga K "NoTable") "__init__") fd13) (F14 : FnI K "TooMany.__init__" 18 (ma K (ga K "TooMany") "__init__") fd14) (F15 : FnI K "NoWord.__init__" 19 (ma K (ga K "NoWord") "__init__") fd15) (F16 : FnI K "NoOption.__init__" 21 (ma K (ga K "NoOption") "__init__") fd16) (F17 : FnI K "NoOptions.__init__" 22 (ma K (ga K "NoOptions") "__init__") fd17) (F18 : FnI K "NoText.__init__" 23 (ma K (ga K "NoText") "__init__") fd18) (F19 : FnI K "NoChange.__init__" 24 (ma K (ga K "NoChange") "__init__") fd19) (F20 : FnI K "NoWriter.__init__" 5 (ma K (ga K "NoWriter") "__init__") fd20) (F21 : FnI K "NoRollout.__init__" 8 (ma K (ga K "NoRollout") "__init__") fd21) (F22 : FnI K "NoAnswer.__init__" 20 (ma K (ga K "NoAnswer") "__init__") fd22)
    (mDr : mg "_law_draw" = some (.ref fDr)) (mWe : mg "_law_well" = some (.ref fWe)) (mOn : mg "_law_one" = some (.ref fOn)) (mKi : mg "_law_kinds" = some (.ref fKi)) (mPl : mg "_law_by_place" = some (.ref fPl)) (mNa : mg "_law_by_name" = some (.ref fNa)) (mFi : mg "_law_fields" = some (.ref fFi)) (mCa : mg "_law_caught" = some (.ref fCa)) :
    FnOk P w K mg base CX0 4 f fd ["_law_script"] (spLaw K) := by
  have GDr : FnOk P w K mg base CX0 1 fDr dDr ["_law_well_here", "_law_much"] spDraw := ok_draw XDr T.gI
  have GWe : FnOk P w K mg base CX0 1 fWe dWe ["_law_script", "_law_at"] (spWell K) := ok_well XWe T.gI
  have GOn : FnOk P w K mg base CX0 2 fOn dOn ["_law_well_here", "_law_some"] (spOne K) := ok_one XOn XDr mDr T.gI T.gL
  have GKi : FnOk P w K mg base CX0 1 fKi dKi ["_law_e"] (spKinds K) := ok_kinds XKi T
  have GPl : FnOk P w K mg base CX0 3 fPl dPl ["_law_x"] (spMade K) := ok_Place XPl T F0 F1 F2 F3 F4 F5 F6 F7 F8 F9 F10 F11 F12 F13 F14 F15 F16 F17 F18 F19 F20 F21 F22
  have GNa : FnOk P w K mg base CX0 3 fNa dNa ["_law_x"] (spMade K) := ok_Name XNa T F0 F1 F2 F3 F4 F5 F6 F7 F8 F9 F10 F11 F12 F13 F14 F15 F16 F17 F18 F19 F20 F21 F22
  have GFi : FnOk P w K mg base CX0 1 fFi dFi ["_law_e"] (spFields K) := ok_fields XFi T
  have GCa : FnOk P w K mg base CX0 3 fCa dCa ["_law_turn", "_law_x"] spCaught := ok_caught XCa T F2 F9 F22
  have bDr : Binds K dDr ["_law_well_here", "_law_much"] [] := XDr.bindsN fun _ _ _ _ _ _ us hl => match us, hl with | [_, _], _ => rfl
  have bWe : Binds K dWe ["_law_script", "_law_at"] [] := XWe.bindsN fun _ _ _ _ _ _ us hl => match us, hl with | [_, _], _ => rfl
  have bOn : Binds K dOn ["_law_well_here", "_law_some"] [] := XOn.bindsN fun _ _ _ _ _ _ us hl => match us, hl with | [_, _], _ => rfl
  have bKi : Binds K dKi ["_law_e"] [] := XKi.bindsN fun _ _ _ _ _ _ us hl => match us, hl with | [_], _ => rfl
  have bPl : Binds K dPl ["_law_x"] [] := XPl.bindsN fun _ _ _ _ _ _ us hl => match us, hl with | [_], _ => rfl
  have bNa : Binds K dNa ["_law_x"] [] := XNa.bindsN fun _ _ _ _ _ _ us hl => match us, hl with | [_], _ => rfl
  have bFi : Binds K dFi ["_law_e"] [] := XFi.bindsN fun _ _ _ _ _ _ us hl => match us, hl with | [_], _ => rfl
  have bCa : Binds K dCa ["_law_turn", "_law_x"] [] := XCa.bindsN fun _ _ _ _ _ _ us hl => match us, hl with | [_, _], _ => rfl
  refine F.ok scLaw (fun vs H Q E h => ?_) (fun cdv A outer s H vs Q E hr h => ?_)
  · obtain ⟨a, ns, rfl, _⟩ := h
    rfl
  have r1 : Room 1 _ := hr.mono (by decide)
  have r2 : Room 2 _ := hr.mono (by decide)
  have hu := hr.units
  refine ⟨_, PSs.nox (pss_cons (ps_for PassesOwn.never rfl (pi_range1 (by rfl) T.gR (pa_cons (pe_op op_add (pe_callB call_len_seq (by rfl) T.gL boot_len (pa_cons (pv 0) pa_nil)) pe_int) pa_nil)) (pg_name (i := 1) scLaw.nd rfl (Or.inl rfl))
    (pss_cons (ps_set (i := 2) scLaw.nd rfl (Or.inl rfl) (pe_call GWe r1 (by rfl) mWe XWe.kp bWe .nil pass0 (pa_cons (pv 0) (pa_cons (pv 1) pa_nil))))
    (pss_cons (ps_set (i := 3) scLaw.nd rfl (Or.inr rfl) (pe_call GOn r2 (by rfl) mOn XOn.kp bOn .nil pass0 (pa_cons (pv 2) (pa_cons (pe_lst
      (pa_cons (pe_op op_sub (pe_call GDr r1 (by rfl) mDr XDr.kp bDr .nil pass0 (pa_cons (pv 2) (pa_cons (pe_op op_pow pe_int pe_int) pa_nil))) pe_int)
      (pa_cons pe_str (pa_cons (pe_tup (pa_cons pe_int (pa_cons pe_str pa_nil))) (pa_cons (pe_lst (pa_cons pe_int pa_nil)) (pa_cons pe_non (pa_cons pe_dnewK (pa_cons pe_str (pa_cons (pe_un un_neg pe_int) pa_nil))))))))) pa_nil))))
    (pss_cons (ps_for PassesOwn.never rfl (pi_list (pe_lst (pa_cons (pe_call GPl hr (by rfl) mPl XPl.kp bPl .nil pass0 (pa_cons (pv 3) pa_nil)) (pa_cons (pe_call GNa hr (by rfl) mNa XNa.kp bNa .nil pass0 (pa_cons (pv 3) pa_nil)) pa_nil)))) (pg_name (i := 4) scLaw.nd rfl (Or.inl rfl))
      (pss_cons (ps_for PassesOwn.never rfl (pi_enum (by rfl) T.gE (pa_cons (pv 4) pa_nil)) (pg_tup rfl (pgs_cons (pg_name (i := 5) scLaw.nd rfl (Or.inr rfl)) (pgs_cons (pg_name (i := 6) scLaw.nd rfl (Or.inl rfl)) pgs_nil)))
        (pss_cons (ps_if (pt_cmpR (op_neS hu) (pe_call GKi r1 (by rfl) mKi XKi.kp bKi .nil pass0 (pa_cons (pv 6) pa_nil))
            (pe_lc (own := [("_law_place", 7)]) (g := gName 7) (tt := tYes) rfl scLaw.nd (pi_range1 (by rfl) T.gR (pa_cons pe_int pa_nil)) (blkOk_by (N := nLaw) (sc := defScope sLaw) (by decide +kernel)) (fun _ _ _ _ _ => pg_name (i := 7) scLaw.nd rfl (Or.inl rfl)) (fun _ _ _ _ _ => pts_nil) (fun _ _ _ _ _ => pe_cmpR op_eq (pv 7) (pv 5) (nomark _))) (nomark _)) (pss_one (ps_ret pe_bl)) pss_nil)
        (pss_one (ps_if (PW.pt (pw_or (pt_not (pt_val (pe_callB call_isX (by rfl) T.gS boot_isinstance (pa_cons (pv 6) (pa_cons (pe_glob (v := .ref (ga K "FillError")) (by rfl) T.mF rfl) pa_nil)))))
            (pw_or1 (pt_not (pt_val (pe_callB call_isX (by rfl) T.gS boot_isinstance (pa_cons (pv 6) (pa_cons (pe_bltn (v := .ty "ValueError") (by rfl) T.gV boot_ValueError rfl) pa_nil)))))))) (pss_one (ps_ret pe_bl)) pss_nil))))
      (pss_one (ps_if (PW.pt (pw_or (pt_cmpR (op_neS hu) (pe_call GFi r1 (by rfl) mFi XFi.kp bFi .nil pass0 (pa_cons (pv 4) pa_nil)) (pe_op op_rep (pe_lst (pa_cons (pv 3) pa_nil)) pe_int) (nomark _))
          (pw_or1 (pt_cmpR (op_neS hu) (pe_lc (te := tExF K "index" (tVar 6)) (own := [("_law_one_here", 6)]) (g := gName 6) (tt := tYes) rfl scLaw.nd (pi_list (pe_slice sl_list (pv 4) (po_some pe_int) po_none)) (blkOk_by (N := nLaw) (sc := defScope sLaw) (by decide +kernel)) (fun _ _ _ _ _ => pg_name (i := 6) scLaw.nd rfl (Or.inl rfl)) (fun _ _ _ _ _ => pts_nil)
            (fun _ _ _ _ _ => pe_exF (pv 6))) (pe_op op_rep (pe_lst (pa_cons pe_int pa_nil)) pe_int) (nomark _))))) (pss_one (ps_ret pe_bl)) pss_nil))))
    (pss_one (ps_if (pt_cmpR (op_neS hu) (pe_lc (own := [("_law_turn", 8)]) (g := gName 8) (tt := tYes) rfl scLaw.nd (pi_range1 (by rfl) T.gR (pa_cons pe_int pa_nil)) (blkOk_by (N := nLaw) (sc := defScope sLaw) (by decide +kernel)) (fun _ _ _ _ _ => pg_name (i := 8) scLaw.nd rfl (Or.inl rfl)) (fun _ _ _ _ _ => pts_nil)
          (fun _ _ _ _ _ => pe_call GCa hr (by rfl) mCa XCa.kp bCa .nil pass0 (pa_cons (pv 8) (pa_cons (pv 3) pa_nil))))
        (pe_lst (pa_cons (pe_tup (pa_cons pe_str (pa_cons (pv 3) pa_nil))) (pa_cons (pe_tup (pa_cons pe_str (pa_cons (pv 3) pa_nil))) (pa_cons (pe_tup (pa_cons pe_str (pa_cons pe_bl pa_nil))) pa_nil)))) (nomark _)) (pss_one (ps_ret pe_bl)) pss_nil))))))
    (pss_one (ps_ret (pe_not (pe_callB call_isVe (by rfl) T.gS boot_isinstance (pa_cons (pe_ve (by rfl) T.gV (pa_cons pe_str pa_nil)) (pa_cons (pe_glob (v := .ref (ga K "FillError")) (by rfl) T.mF rfl) pa_nil))))))), ?_⟩
  obtain ⟨a, ns, rfl, ha, few, k⟩ := h
  refine ⟨_, rfl, a, _, rfl, .inl ha, _, _, rfl, rfl, _, rfl, ?_, ?_, ?_⟩
  · rw [List.length_map]
    omega
  · rw [List.length_map]
    omega
  rw [List.length_map]
  refine for_range (lo := 0) (n := ((ns.length : Int) + 1).toNat) (fun i σ G => ∃ v1 v2 v3 v4 v5 v6 v7 v8 : Option V, σ = [some (.ref a), v1, v2, v3, v4, v5, v6, v7, v8] ∧ SqL K G a (ns.map V.int))
    ⟨none, none, none, none, none, none, none, none, rfl, ha⟩ (fun i σ G lt p => ?_) (fun σ G p => ?_)
  · obtain ⟨v1, v2, v3, v4, v5, v6, v7, v8, rfl, hG⟩ := p
    have lt' : i ≤ 63 := by omega
    refine ⟨_, rfl, _, rfl, a, ns, i, by rw [Int.zero_add]; rfl, hG, few, lt', fun H2 p n2 w2 s2 => ?_⟩
    have ap : ∀ {G' : Hp}, Well G' p → But p H2 G' → SqL K G' a (ns.map V.int) := fun w b => by
      rcases hG with (r | ⟨o, r⟩) | r
      · exact .inl (.inl (b _ _ (ne_of_none r n2) (s2 _ _ r)))
      · exact .inl (.inr ⟨o, b _ _ (ne_of_none r n2) (s2 _ _ r)⟩)
      · exact .inr r
    refine ⟨_, rfl, ?_⟩
    refine ⟨_, rfl, 10, 9, rfl, rfl, ⟨by decide, by decide, by decide⟩, p, _, rfl, w2, (by decide), (by decide), fun H3 d d0 d1 w3 bt => ?_⟩
    refine ⟨_, _, rfl, rfl, (show 2 ≤ sizeLine by decide), fun t nt => ⟨(show 1 ≤ sizeLine by decide), fun l nl => fun dd nd => ⟨_, rfl, (show 8 ≤ sizeLine by decide), fun L nL => ?_⟩⟩⟩
    have S3 := (((Same.new (o := .tup [.int 1, .str "a"]) nt).trans (Same.new (o := .lst [.int 1]) nl)).trans (Same.new (o := .dK []) nd))
    have pL : p ≠ L := by
      obtain ⟨c, b, n, e⟩ := w3
      exact ne_of_none (S3 _ _ e) nL
    refine ⟨p, L, _, rfl, Well.same w3 (S3.trans (Same.new nL)), Ne.symm pL, upd_same, (show 0 < 8 by decide), (show 8 < 1073741824 by decide), fun H4 x hx w4 bt4 => ?_⟩
    have h4 := ap w4 (bt.trans (But.trans (But.of (S3.trans (Same.new nL))) bt4))
    have px : plainV x = true := by
      simp only [List.mem_cons, List.not_mem_nil, or_false] at hx
      rcases hx with rfl | rfl | rfl | rfl | rfl | rfl | rfl | rfl <;> rfl
    clear hx bt4 w4 S3 nL nd nl nt
    refine ⟨_, rfl, x, rfl, fun H5 l1 xs1 n5 s5 e5 r5 => ⟨_, rfl, x, rfl, fun H6 l2 xs2 n6 s6 e6 r6 => ⟨(show 2 ≤ sizeLine by decide), fun L2 nL2 => ⟨L2, rfl, ⟨_, SqL.of upd_same⟩, ?_⟩⟩⟩⟩
    have S6 : Same H6 (upd H6 L2 (.lst [.ref l1, .ref l2])) := Same.new nL2
    have hL2 : upd H6 L2 (.lst [.ref l1, .ref l2]) L2 = some (.lst [.ref l1, .ref l2]) := upd_same
    have h7 := ((s5.trans s6).trans S6).seq h4
    have all : ∀ (j : Nat) (y : V), ([V.ref l1, V.ref l2] : List V)[j]? = some y → ∃ (l : Addr) (xs : List V), y = .ref l ∧ upd H6 L2 (.lst [.ref l1, .ref l2]) l = some (.lst xs) ∧ ExL K (upd H6 L2 (.lst [.ref l1, .ref l2])) xs (specs x) := fun j y hy => by
      match j, hy with
      | 0, hy =>
        cases hy
        exact ⟨l1, xs1, rfl, S6 _ _ (s6 _ _ e5), (r5.same s6).same S6⟩
      | 1, hy =>
        cases hy
        exact ⟨l2, xs2, rfl, S6 _ _ e6, r6.same S6⟩
    generalize upd H6 L2 (.lst [.ref l1, .ref l2]) = H7 at *
    refine for_list (K := K) (a := L2) (xs := [.ref l1, .ref l2]) (fun j σ G => ∃ v4 v5 v6 v7 v8 : Option V, σ = [some (.ref a), some (.int (0 + (i : Int))), some (.ref p), some x, v4, v5, v6, v7, v8] ∧ Same H7 G) ⟨_, _, _, _, _, rfl, Same.refl _⟩
      (fun j σ G _ q => ?_) (fun j y σ G hy q => ?_) (fun σ G q => ?_)
    · obtain ⟨_, _, _, _, _, _, q⟩ := q
      exact SqL.of (q _ _ hL2)
    · obtain ⟨v4, v5, v6, v7, v8, rfl, sG⟩ := q
      obtain ⟨l, xs, rfl, hl0, ex0⟩ := all j y hy
      have hl := sG _ _ hl0
      have ex := ex0.same sG
      refine ⟨_, rfl, l, xs, rfl, SqL.of hl, ?_⟩
      refine for_enumX (xs := xs) (fun i2 σ G2 => ∃ v5 v6 v7 v8 : Option V, σ = [some (.ref a), some (.int (0 + (i : Int))), some (.ref p), some x, some (.ref l), v5, v6, v7, v8] ∧ Same G G2) ⟨_, _, _, _, rfl, Same.refl _⟩
        (fun i2 σ G2 _ q => ?_) (fun i2 z σ G2 Tt hz q nT => ?_) (fun σ G2 q => ?_)
      · obtain ⟨_, _, _, _, _, q⟩ := q
        exact SqL.of (q _ _ hl)
      · obtain ⟨v5, v6, v7, v8, rfl, sG2⟩ := q
        have lt2 : i2 < 23 := by
          have e1 := (List.getElem?_eq_some_iff.mp hz).1
          have e2 : xs.length = 23 := ex.len
          omega
        obtain ⟨c, hc⟩ : ∃ c, cls[i2]? = some c := ⟨_, List.getElem?_eq_getElem (show i2 < cls.length from lt2)⟩
        have hs : (specs x)[i2]? = some (c.1, (c.2.zip [x, .int 7]).reverse) := by
          unfold specs
          rw [List.getElem?_map, hc]
          rfl
        obtain ⟨ae, hae, is0⟩ := ex.at hs
        rw [hz] at hae
        cases hae
        have nm : nmC i2 = c.1 := by
          unfold nmC
          rw [List.getD_eq_getElem?_getD, hc]
          rfl
        have is3 : IsEx (upd G2 Tt (.tup [.int (i2 : Nat), .ref ae])) ae (ga K c.1) (c.2.zip [x, .int 7]).reverse := (is0.same sG2).same (Same.new nT)
        have s3 := sG2.trans (Same.new (o := .tup [.int (i2 : Nat), .ref ae]) nT)
        refine ⟨Tt, _, rfl, SqT.of upd_same, rfl, _, _, rfl, _, _, rfl, rfl, ?_⟩
        generalize upd G2 Tt (.tup [.int (i2 : Nat), .ref ae]) = G3 at *
        refine ⟨_, rfl, ae, i2, c, _, rfl, hc, lt2, by rw [nm]; exact is3, fun G4 pk n4 s4 e4 => lc_places fun D G5 n5 s5 e5 => ⟨pk, D, _, _, rfl, rfl, SqL.of (s5 _ _ e4), SqL.of e5, SmL.same ?_, _, rfl, iteF ?_⟩⟩
        · intro v hv
          obtain ⟨q, _, rfl⟩ := List.mem_map.mp hv
          rfl
        have is5 := (is3.same s4).same s5
        refine ⟨_, rfl, ae, ga K c.1, _, _, _, true, rfl, is5, T.ec i2 c hc, fun u e => e, T.kf i2 c hc, true, rfl, iteF ?_⟩
        refine ⟨_, rfl, ae, ga K c.1, _, _, _, true, rfl, is5, T.ec i2 c hc, fun u e => e, T.kv i2 c hc, true, rfl, iteF ?_⟩
        exact ⟨_, _, _, _, rfl, (s3.trans s4).trans s5⟩
      · obtain ⟨v5, v6, v7, v8, rfl, sG2⟩ := q
        have hl2 := sG2 _ _ hl
        have ex2 := ex.same sG2
        refine ⟨_, rfl, l, xs, x, rfl, hl2, ex2, fun G4 pf n4 s4 e4 => ⟨_, rfl, (show 1 ≤ sizeLine by decide), fun q1 m1 => ⟨q1, 21, _, rfl, rfl, upd_same, by decide, by decide, (show 1 * 21 ≤ sizeLine by decide), fun q2 m2 =>
          ⟨pf, q2, List.replicate 21 x, List.replicate 21 x, rfl, rfl, SqL.of ((Same.new m2) _ _ ((Same.new m1) _ _ e4)), SqL.of upd_same, SmL.same (fun v hv => ?_), _, rfl, iteF ?_⟩⟩⟩⟩
        · rw [List.eq_of_mem_replicate hv]
          exact px
        have s5 := (s4.trans (Same.new (o := .lst [x]) m1)).trans (Same.new (o := .lst (List.replicate (21 : Int).toNat [x]).flatten) m2)
        refine test_of (op_of (lc_index T rfl (s5 _ _ hl2) (ex2.same s5) fun D G5 n5 s6 e5 => ⟨(show 1 ≤ sizeLine by decide), fun q3 m3 => ⟨q3, 3, _, rfl, rfl, upd_same, by decide, by decide, (show 1 * 3 ≤ sizeLine by decide), fun q4 m4 =>
          ⟨D, q4, [.int 7, .int 7, .int 7], [.int 7, .int 7, .int 7], rfl, rfl, SqL.of ((Same.new m4) _ _ ((Same.new m3) _ _ e5)), SqL.of upd_same, SmL.same (fun v hv => ?_), _, rfl, iteF ?_⟩⟩⟩))
        · simp at hv
          rw [hv]
          rfl
        exact ⟨_, _, _, _, _, rfl, ((((sG.trans sG2).trans s5).trans s6).trans (Same.new m3)).trans (Same.new m4)⟩
    · obtain ⟨v4, v5, v6, v7, v8, rfl, sG⟩ := q
      refine if_of (test_of (op_of (lc_caught fun D a0 b0 c0 G1 n1 s1 eD ea eb ec => ⟨_, rfl, (show 2 ≤ sizeLine by decide), fun t0 m0 => ⟨_, rfl, (show 2 ≤ sizeLine by decide), fun t1 m1 => ⟨(show 2 ≤ sizeLine by decide), fun t2 m2 => ⟨(show 3 ≤ sizeLine by decide), fun L m3 => ?_⟩⟩⟩⟩)))
      have S0 : Same G1 (upd G1 t0 (.tup (caught 0 x))) := Same.new m0
      have f0 : upd G1 t0 (.tup (caught 0 x)) t0 = some (.tup (caught 0 x)) := upd_same
      have S1 : Same _ (upd (upd G1 t0 (.tup (caught 0 x))) t1 (.tup (caught 1 x))) := Same.new m1
      have f1 : upd (upd G1 t0 (.tup (caught 0 x))) t1 (.tup (caught 1 x)) t1 = some (.tup (caught 1 x)) := upd_same
      have S2 : Same _ (upd (upd (upd G1 t0 (.tup (caught 0 x))) t1 (.tup (caught 1 x))) t2 (.tup (caught 2 x))) := Same.new m2
      have f2 : upd (upd (upd G1 t0 (.tup (caught 0 x))) t1 (.tup (caught 1 x))) t2 (.tup (caught 2 x)) t2 = some (.tup (caught 2 x)) := upd_same
      have Sl := Same.new (o := .lst [.ref t0, .ref t1, .ref t2]) m3
      have S := ((S0.trans S1).trans S2).trans Sl
      have pl : ∀ (t : Nat), ∀ v ∈ caught t x, plainV v = true := fun t v hv => by
        match t, hv with
        | 0, hv =>
          simp [caught] at hv
          rcases hv with rfl | rfl
          · rfl
          · exact px
        | 1, hv =>
          simp [caught] at hv
          rcases hv with rfl | rfl
          · rfl
          · exact px
        | t + 2, hv =>
          simp [caught] at hv
          rcases hv with rfl | rfl <;> rfl
      refine ⟨D, L, _, _, rfl, rfl, SqL.of (S _ _ eD), SqL.of upd_same, ⟨.inr ⟨a0, t0, _, rfl, rfl, SqT.of (S _ _ ea), SqT.of (Sl _ _ (S2 _ _ (S1 _ _ f0))), pl 0⟩, .inr ⟨b0, t1, _, rfl, rfl, SqT.of (S _ _ eb), SqT.of (Sl _ _ (S2 _ _ f1)), pl 1⟩,
        .inr ⟨c0, t2, _, rfl, rfl, SqT.of (S _ _ ec), SqT.of (Sl _ _ f2), pl 2⟩, trivial⟩, _, rfl, iteF ?_⟩
      exact ⟨_, _, _, _, _, _, _, _, rfl, ((sG.trans s1).trans S).seq h7⟩
  · obtain ⟨v1, v2, v3, v4, v5, v6, v7, v8, rfl, _⟩ := p
    exact ⟨(show 1 ≤ 1000 by decide), fun e n => ⟨e, _, _, false, rfl, upd_same, fun u h => h, T.kn, false, rfl, k _⟩⟩
end
end K05

set_option maxRecDepth 100000
set_option maxHeartbeats 0
namespace K05
open PySem PySem.Spec PyProof.Rows L2 He VH
theorem facts {P : Program} {w : World} {K : PySem.W.Frag} {h : Heap} {mg : Str → Option Value} {f : Addr} (X : K.In h) (G : h.Ns mainGlobals mg) (hfa : mg ("law" : Str) = some (.ref f)) (c : SaysV fa fn ex K) :
    ∃ fd : FuncData, (∀ (s : Shared) (v : Value), BindsTo s fd ⟨[v], []⟩ [("_law_script", v)]) ∧ ∀ base : Heap, K.In base → base.Ns mainGlobals mg → FnOk P w K mg base CX0 4 f fd ["_law_script"] (spLaw K) := by
  have T := txt_of X G c
  have g := c.1
  obtain ⟨d0, X0⟩ := g.def_ 0 (d := dd 26 "_law_draw") rfl
  obtain ⟨d1, X1⟩ := g.def_ 1 (d := dd 27 "_law_well") rfl
  obtain ⟨d2, X2⟩ := g.def_ 2 (d := dd 28 "_law_one") rfl
  obtain ⟨d3, X3⟩ := g.def_ 3 (d := dd 29 "_law_kinds") rfl
  obtain ⟨d4, X4⟩ := g.def_ 4 (d := dd 30 "_law_by_place") rfl
  obtain ⟨d5, X5⟩ := g.def_ 5 (d := dd 31 "_law_by_name") rfl
  obtain ⟨d6, X6⟩ := g.def_ 6 (d := dd 32 "_law_fields") rfl
  obtain ⟨d7, X7⟩ := g.def_ 7 (d := dd 33 "_law_caught") rfl
  obtain ⟨fd, F⟩ := g.def_ 8 (d := dd 34 "law") rfl
  obtain ⟨e0, F0⟩ := g.def_ 9 (d := di 2 "NoStatement" "NoStatement.__init__") rfl
  obtain ⟨e1, F1⟩ := g.def_ 10 (d := di 14 "NoState" "NoState.__init__") rfl
  obtain ⟨e2, F2⟩ := g.def_ 11 (d := di 3 "NoRow" "NoRow.__init__") rfl
  obtain ⟨e3, F3⟩ := g.def_ 12 (d := di 4 "NoNumber" "NoNumber.__init__") rfl
  obtain ⟨e4, F4⟩ := g.def_ 13 (d := di 6 "NoFill" "NoFill.__init__") rfl
  obtain ⟨e5, F5⟩ := g.def_ 14 (d := di 7 "NoPhase" "NoPhase.__init__") rfl
  obtain ⟨e6, F6⟩ := g.def_ 15 (d := di 9 "NoRun" "NoRun.__init__") rfl
  obtain ⟨e7, F7⟩ := g.def_ 16 (d := di 10 "NoKey" "NoKey.__init__") rfl
  obtain ⟨e8, F8⟩ := g.def_ 17 (d := di 11 "NoDeed" "NoDeed.__init__") rfl
  obtain ⟨e9, F9⟩ := g.def_ 18 (d := di 12 "NotNow" "NotNow.__init__") rfl
  obtain ⟨e10, F10⟩ := g.def_ 19 (d := di 13 "NoDeeds" "NoDeeds.__init__") rfl
  obtain ⟨e11, F11⟩ := g.def_ 20 (d := di 15 "NoMove" "NoMove.__init__") rfl
  obtain ⟨e12, F12⟩ := g.def_ 21 (d := di 16 "NoHistory" "NoHistory.__init__") rfl
  obtain ⟨e13, F13⟩ := g.def_ 22 (d := di 17 "NoTable" "NoTable.__init__") rfl
  obtain ⟨e14, F14⟩ := g.def_ 23 (d := di 18 "TooMany" "TooMany.__init__") rfl
  obtain ⟨e15, F15⟩ := g.def_ 24 (d := di 19 "NoWord" "NoWord.__init__") rfl
  obtain ⟨e16, F16⟩ := g.def_ 25 (d := di 21 "NoOption" "NoOption.__init__") rfl
  obtain ⟨e17, F17⟩ := g.def_ 26 (d := di 22 "NoOptions" "NoOptions.__init__") rfl
  obtain ⟨e18, F18⟩ := g.def_ 27 (d := di 23 "NoText" "NoText.__init__") rfl
  obtain ⟨e19, F19⟩ := g.def_ 28 (d := di 24 "NoChange" "NoChange.__init__") rfl
  obtain ⟨e20, F20⟩ := g.def_ 29 (d := di 5 "NoWriter" "NoWriter.__init__") rfl
  obtain ⟨e21, F21⟩ := g.def_ 30 (d := di 8 "NoRollout" "NoRollout.__init__") rfl
  obtain ⟨e22, F22⟩ := g.def_ 31 (d := di 20 "NoAnswer" "NoAnswer.__init__") rfl
  have e := hfa.symm.trans (glo_ok X G (g.fact 9 (f := .glo "law") rfl))
  cases e
  have b := FunD.bindsA (ps := ["_law_script"]) F fun _ _ _ _ _ _ us hl => match us, hl with | [_], _ => rfl
  exact ⟨fd, fun s v => b s [v] rfl, fun base _ _ => ok_law F T X0 X1 X2 X3 X4 X5 X6 X7 F0 F1 F2 F3 F4 F5 F6 F7 F8 F9 F10 F11 F12 F13 F14 F15 F16 F17 F18 F19 F20 F21 F22 (glo_ok X G (g.fact 1 (f := .glo "_law_draw") rfl)) (glo_ok X G (g.fact 2 (f := .glo "_law_well") rfl)) (glo_ok X G (g.fact 3 (f := .glo "_law_one") rfl)) (glo_ok X G (g.fact 4 (f := .glo "_law_kinds") rfl)) (glo_ok X G (g.fact 5 (f := .glo "_law_by_place") rfl)) (glo_ok X G (g.fact 6 (f := .glo "_law_by_name") rfl)) (glo_ok X G (g.fact 7 (f := .glo "_law_fields") rfl)) (glo_ok X G (g.fact 8 (f := .glo "_law_caught") rfl))⟩
end K05
open PySem PySem.W PySem.Calls PyProof.Rows
theorem PySem.Challenge.cw_fillbehind_k05_exceptions_holds : PySem.Challenge.rw_fillbehind_k05_exceptions.Holds := by
  w_on; o_law
  refine HandSHeadRun.head_any (r := OpenLaw.row PySem.Challenge.rw_fillbehind_k05_exceptions) (q := view (OpenLaw.row PySem.Challenge.rw_fillbehind_k05_exceptions).prog [34]) (H := K05.hk) (ob := K05.ob) (M := 20000) (loose := K05.names) (d := HandSHeadRun.topDef (OpenLaw.row PySem.Challenge.rw_fillbehind_k05_exceptions).prog 34) (kwd := []) K05.ob_eq
    (by kernel_rfl) (fun s => by kernel_rfl) K05.run (by kernel_rfl) (by kernel_rfl) (by kernel_rfl) (by rfl) (by first | assumption | decide +kernel) (by decide +kernel) ⟨rfl, rfl, rfl, rfl, rfl, by decide +kernel⟩ ?hw ?hc
  case hw => w_witness2
  case hc =>
    refine L2.walk_ofE (l := PySem.Challenge.rw_fillbehind_k05_exceptions) (n := 63) (k := 4) (x := "_law_script") (CX := L2.CX0) rfl (by decide) (by kernel_rfl) ⟨rfl, by decide, by decide⟩ ?F (fun _ _ _ _ z => z)
    intro w mg fa h Y G hmg0
    obtain ⟨K, KX, c⟩ := Y
    have hmg : mg ("law" : PySem.Str) = some (.ref fa) := by
      have e : (HandSHeadRun.topDef (OpenLaw.row PySem.Challenge.rw_fillbehind_k05_exceptions).prog 34).name = ("law" : PySem.Str) := by kernel_rfl
      rw [← e]
      exact hmg0
    obtain ⟨fd, hb, hF⟩ := K05.facts (P := (PySem.Challenge.rw_fillbehind_k05_exceptions).prog) (w := w) KX G hmg c
    exact ⟨K, fd, K05.spLaw K, KX, hb, fun H a ns hl _ hS => ⟨a, ns, rfl, hS, hl, fun _ => rfl⟩, hF⟩
