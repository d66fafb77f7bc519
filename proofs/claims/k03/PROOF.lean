import PyProof.Rows.All
import Wide.All
import OpenK.AllK
import Wide.FinOn
import HandS.Base
import HandS.Call
import HandS.List
import HandS.Exc
import KE.KIsAll
import KE.KTryMore
import HandS.ExcOwn
import HandS.ExcInit
import HandS.Defaults
import HandS.ForMost
import HandS.ExcValue
import HandS.ExcIs
import HandS.IsInst
import HandS.ForSpec
import HandS.More
import PyProof.ListStr
import PyProof.StrBlock2
import HandS.WideBits
import HandS.Walk
import HandS.StrMore
import HandS.Steps
import HandS.Zip
import HandS.Conv
import HandS.Dict
import HandS.DictTup
import HandS.SetKeys
import HandS.Small
import KE.KDictKeyed
import KE.KDictLaw
import KE.KDictWalk
import HandS.Deep
import KE.SortData
import HandS.Strs
import HandS.Set
import HandS.TupSets
import HandS.SetTxt0
import HandS.SetFor
import PyProof.ListOps
import HandS.Iter
import HandS.ListItems
import KE.KItemsList
import PyProof.ZipIter
import PyProof.Rows.StrTemp
import HandS.DictComp
import HandS.TupAny
import HandS.OwnEq
import HandS.Codes
import HandS.TryMany
import HandS.TryOnly
import KE.OsRunLaw
import PySem.Challenge.RW_keptreadings_k03_tokens_refused_and_by_n
set_option Elab.async false
set_option linter.all false
set_option maxRecDepth 100000
set_option maxHeartbeats 4000000
/-! own exceptions called with keywords -/
namespace PySem
namespace EV
open PySem.HandSPX
open Builtin Builtin.ObjectAttr
section
variable {M : Model} {A : Around} {E : Value → Shared → Prop} {h : Heap} {g : Array GenState} {d : Drawn} {t : Nat} {os : OsState}
variable {nm q : Str} {C N : Addr} {bs bm bmB : List Value} {hdct : Bool} {sn : List Str} {sub : List Value} {ab : Bool} {col : Option Bool} {dd : Option Addr} {k0 k1 k2 k3 k5 : Option Value} {B newId initId : String}
variable {rest : List Value} {kw : List (Str × Value)}

theorem check_new_kw (F : ExcBaseFacts B newId initId bmB) (hT : ∀ X : String, bm.contains (.type X) = bmB.contains (.type X)) {Q : Unit → Shared → Prop}
    (hC : h.get? C = some (excClassObj nm q C N bs bm hdct sn sub ab col dd k0 k1 k2 k3 k5 newId)) (hq : Q () ⟨h, g, d, t, os⟩) : wpAny M A (checkBuiltinCall newId ⟨.ref C :: rest, kw⟩) Q E ⟨h, g, d, t, os⟩ := by
  have hcont : (Value.ref C :: bm).contains (.type B) = true := by rw [List.contains_cons, hT, F.hasB, Bool.or_true]
  have hstar := F.noStar
  simp only [checkBuiltinCall, F.newKind, F.newSplit, F.newRow]
  repeat (first | refine wpAny_loadPart_at hC ?_ | (refine wpAny_isSubtype_exc hC ?_; rw [hcont]) | refine wpAny_staticBase_exc hC ?_ | refine wpAny_madeBy_exc hC ?_ | simp only [bne_self_eq_false, Bool.false_eq_true, if_false] | wp_step)
  exact hq
end
section
variable {prog : Program} {w : World} {A : Around} {E : Value → Shared → Prop} {R : Result → Shared → Prop} {h : Heap} {g : Array GenState} {d : Drawn} {t : Nat} {os : OsState}
variable {nm q : Str} {C N : Addr} {bs bm bmB : List Value} {hdct : Bool} {sn : List Str} {sub : List Value} {ab : Bool} {col : Option Bool} {dd : Option Addr} {k0 k1 k2 k3 k5 : Option Value} {B newId initId : String}
variable {rest : List Value} {kw : List (Str × Value)}

theorem new_kw (F : ExcBaseFacts B newId initId bmB) (hT : ∀ X : String, bm.contains (.type X) = bmB.contains (.type X))
    (hC : h.get? C = some (excClassObj nm q C N bs bm hdct sn sub ab col dd k0 k1 k2 k3 k5 newId))
    (hq : R (.ok (.ret (.ref (h.objs.size + 1)))) ⟨(h.push { cls := .type "tuple", data := .seq rest.toArray }).push
      { cls := .ref C, data := .fields #[.ref h.objs.size, .none, .none, .none, .bool false, .none] }, g, d, t, os⟩) (hrest : rest.length ≤ sizeLine) :
    codeAny (model prog w) A (.builtin newId ⟨.ref C :: rest, kw⟩) R ⟨h, g, d, t, os⟩ := by
  have hends := F.ends
  have hcB : (Value.ref C :: bm).contains (.type B) = true := by rw [List.contains_cons, hT, F.hasB, Bool.or_true]
  have hcA : (Value.ref C :: bm).contains (.type "AttributeError") = false := by rw [List.contains_cons, hT, F.noAttr]; rfl
  have hcN : (Value.ref C :: bm).contains (.type "NameError") = false := by rw [List.contains_cons, hT, F.noName]; rfl
  refine codeAny_builtinAt F.entry ?_
  unfold Builtin.«BaseException.__new__»
  refine wpAt_bind ?_
  show wpAt _ _ _ (stack >>= _) _ _ _
  refine wpAt_bind (wpAt_stack fun p below => wpAt_of_wpAny ?_)
  wp_walk
  refine wpAt_of_wpAny ?_
  rw [F.owner]
  repeat (first | with_reducible refine wpAny_madeHere_exc F.canon hC ?_ | with_reducible refine wpAny_loadPart_at hC ?_ | (with_reducible refine wpAny_isSubtype_exc hC ?_; first | rw [hcB] | rw [hcA] | rw [hcN]) | wp_step)
  show R _ _
  rw [Heap.size_push]
  exact hq

theorem type_call_kw (F : ExcBaseFacts B newId initId bmB) (hT : ∀ X : String, bm.contains (.type X) = bmB.contains (.type X)) {fI : Addr} {Q : Fin → Shared → Prop}
    (hC : h.get? C = some (excClassObj nm q C N bs bm hdct sn sub ab col dd k0 k1 k2 k3 k5 newId))
    (hi : W.Looks (model prog w) h (typeLookup (.ref C) "__init__") (some (.ref fI))) (hb : ∀ self, W.Looks (model prog w) h (bindSpecial (.ref fI) self) (.ref fI, [self])) (hrest : rest.length ≤ sizeLine)
    (hq : codeAny (model prog w) A (.call (.ref fI) ⟨.ref (h.objs.size + 1) :: rest, kw⟩)
      (fun r s' => match r with | .ok (.ret v) => v = .none ∧ Q (.done (.ret (.ref (h.objs.size + 1)))) s' | .ok _ => False | .error e => E e s')
      ⟨(h.push (W.kdv_tup rest)).push (excO C h.objs.size), g, d, t, os⟩) :
    wpAny (model prog w) A (Builtin.«type.__call__» ⟨.ref C :: rest, kw⟩) Q E ⟨h, g, d, t, os⟩ := by
  repeat (first | with_reducible refine wpAny_loadPart_at hC ?_ | with_reducible refine wpAny_madeBy_exc hC ?_ | wp_step)
  refine codeAny_call_builtin_code (Code.quiet_builtin _ F.quiet) (check_new_kw F hT hC ?_)
  refine new_kw F hT hC ?_ hrest
  show wpAny _ _ _ _ _ _
  have k : ∀ b o, h.get? b = some o → ((h.push (W.kdv_tup rest)).push (excO C h.objs.size)).get? b = some o := fun b o e => Heap.get?_push_of_some _ (Heap.get?_push_of_some _ e)
  have hC₁ := k _ _ hC
  have hget : ((h.push (W.kdv_tup rest)).push (excO C h.objs.size)).get? (h.objs.size + 1) = some (excO C h.objs.size) := by heap_get
  have hcC : (Value.ref C :: bm).contains (.ref C) = true := by simp
  have i1 := hi.keeps k
  have b1 := (hb (.ref (h.objs.size + 1))).keeps k
  unfold isInstance
  repeat (first | with_reducible refine wpAny_loadPart_at hget ?_ | (with_reducible refine wpAny_isSubtype_exc hC₁ ?_; rw [hcC]) | wp_step)
  show wpAny _ _ (typeLookup (.ref C) _) _ _ _
  refine i1.at ?_
  refine wpAny_holding (wpAny_bind (b1.at ?_))
  refine wpAny_bind (wpAny_call (codeAny_mono hq fun r s' z => ?_))
  rcases r with e | (v | _ | _ | _) <;> first | exact z | exact z.elim | skip
  obtain ⟨rfl, z⟩ := z
  first
    | exact wpAny_pure (wpAny_pure z)
    | (wp_walk; exact z)

theorem call_kw (F : ExcBaseFacts B newId initId bmB) (hT : ∀ X : String, bm.contains (.type X) = bmB.contains (.type X)) {fI : Addr}
    (hC : h.get? C = some (excClassObj nm q C N bs bm hdct sn sub ab col dd k0 k1 k2 k3 k5 newId))
    (hi : W.Looks (model prog w) h (typeLookup (.ref C) "__init__") (some (.ref fI))) (hb : ∀ self, W.Looks (model prog w) h (bindSpecial (.ref fI) self) (.ref fI, [self])) (hrest : rest.length ≤ sizeLine)
    (hq : codeAny (model prog w) (A.under (.builtin "type.__call__" ⟨.ref C :: rest, kw⟩)) (.call (.ref fI) ⟨.ref (h.objs.size + 1) :: rest, kw⟩) (W.InitBack (h.objs.size + 1) R)
      ⟨(h.push (W.kdv_tup rest)).push (excO C h.objs.size), g, d, t, os⟩) :
    codeAny (model prog w) A (.call (.ref C) ⟨rest, kw⟩) R ⟨h, g, d, t, os⟩ := by
  have f1 := tc_lookup
  have f2 := tc_bind (.ref C)
  have hTy : (⟨h, g, d, t, os⟩ : Shared).TypeIs (.ref C) "type" := ⟨_, hC, rfl⟩
  refine codeAny_of_tree ?_
  show wpAny _ _ (callAny (.ref C) _) _ _ _
  repeat (any_goals (first | assumption | with_reducible refine wpAny_loadPart_at hC ?_ | wp_step))
  refine ⟨rfl, ?_⟩
  refine codeAny_call_builtin_at (Code.quiet_builtin _ (by decide +kernel)) entry_typeCall (wpAny_check_type_call_sub hC (type_call_kw F hT hC hi hb hrest ?_))
  refine codeAny_mono hq fun r s' z => ?_
  rcases r with e | (v | _ | _ | _) <;> exact z
end
end EV
end PySem

set_option Elab.async false
set_option linter.all false
set_option maxRecDepth 100000
set_option maxHeartbeats 4000000
/-! own exceptions as values: made, asked, read -/
namespace PySem
namespace EV
open PySem.HandSPX PySem.W PySem.Calls PyProof.Rows
/-! ### the text of __init__(self, value=None): self.value = value -/
def iA (p1 p2 p3 : Pos) : Arguments := { posonlyargs := [], args := [{ arg := "self", annotation := none, pos := p1 }, { arg := "value", annotation := none, pos := p2 }], vararg := none, kwonlyargs := [], kw_defaults := [], kwarg := none, defaults := [.Constant .none 0 p3] }
def iB (q1 q2 q3 q4 : Pos) : List Stmt := [.Assign [.Attribute (.Name "self" q1) "value" q2] (.Name "value" q3) q4]
def iS : Scope := { kind := .function, names := [(PySem.Str.ofString "self", .local), (PySem.Str.ofString "value", .local)], isGenerator := false, isCoroutine := false, more := [] }
/-- an own error class, child of the base of all (at T) -/
structure ErrC (K : Frag) (C T : Addr) : Prop where
  cls : ∃ nm q N bs sn sub ab col dd k0 k1 k2 k3 k5, K.lookup C = some (excClassObj nm q C N bs (.ref T :: veTail) true sn sub ab col dd k0 k1 k2 k3 k5 "ValueError.__new__")
  sa : findIn K (.ref C) "__setattr__" = some (some (.builtin "object.__setattr__"))
  ga : findIn K (.ref C) "__getattribute__" = some (some (.builtin "BaseException.__getattribute__"))
  gg : findIn K (.ref C) "__getattr__" = some none
  noN : findIn K (.ref C) "value" = some none
  ca : findIn K (.ref C) "__class__" = some (some (.builtin "object.__class__"))
  kC : keepIn K (.ref C) = true
/-- its __init__ -/
structure ErrI (K : Frag) (C fI : Addr) : Prop where
  iC : findIn K (.ref C) "__init__" = some (some (.ref fI))
  tC : typeIn K (.ref fI) = some (.type "function")
  fn : ∃ (oc : Value) (od : Option Addr) (doc pm kV : Value) (an : Option Addr) (cdv ct : Value) (osl : Array (Option Value)) (qn : Str) (D : Addr) (oD : Obj) (nD : Nat) (p1 p2 p3 q1 q2 q3 q4 : Pos),
    K.lookup fI = some ⟨oc, od, .func (fnOf "__init__" qn (iA p1 p2 p3) (iB q1 q2 q3 q4) iS (.ref D) kV doc pm an cdv ct), osl⟩ ∧ codeIn K cdv qn = true ∧ K.lookup D = some oD ∧ oD.data = .seq #[.none] nD
theorem veT : refsVE veTail = true := by decide +kernel
theorem veRT (T : Addr) : refsVE (.ref T :: veTail) = true := by
  show refsVE veTail = true
  exact veT
theorem one_size (v : Value) : [v].length ≤ sizeLine := by
  rw [sizeLine_eq]
  exact (by decide : 1 ≤ 16777216)
/-- what __init__ leaves of a fresh exception at x -/
structure InitEnd (h h' : Heap) (x C dx t1 : Addr) (v : Value) : Prop where
  keep : ∀ b o, b ≠ x → h.get? b = some o → h'.get? b = some o
  obj : h'.get? x = some { cls := .ref C, dict := some dx, data := .fields #[.ref t1, .none, .none, .none, .bool false, .none] }
  dbig : h.objs.size ≤ dx
  dne : dx ≠ x
  ns : h'.Ns1 dx (fun y => if y = "value" then some v else none)
structure OwnMade (h h' : Heap) (e C d : Addr) (v : Value) : Prop where
  keep : ∀ b o, h.get? b = some o → h'.get? b = some o
  new : h.objs.size ≤ e
  obj : ∃ t1 : Addr, h'.get? e = some { cls := .ref C, dict := some d, data := .fields #[.ref t1, .none, .none, .none, .bool false, .none] }
  dbig : h.objs.size ≤ d
  dne : d ≠ e
  ns : h'.Ns1 d (fun y => if y = "value" then some v else none)
theorem ldC {M : Model} {s : Shared} {name : Str} {scope : Scope} {L a : Addr} {cd : Value} {m : Str → Option Value} {x : Str} {pos : Pos} {v : Value} {Q : Value → Shared → Prop} {A : Around} {E : Value → Shared → Prop} (hn : s.heap.Ns L m) (hv : m x = some v) (h : Q v s)
    (hk : scope.kind = .function := by rfl) (hl : (envOfC name scope L a cd).kindOf x = some .local := by rfl) (hd : (x == ("__debug__" : Str)) = false := by decide) :
    wpAny M A (eval (.Name x pos) (envOfC name scope L a cd)) Q E s := wpAny_Name (wpAny_loadName_local hk hl hn hv h) hd
/-- the three ways to hand the value in: by place, by name, not at all -/
inductive Hand : List Value → List (Str × Value) → Value → Prop
  | place (v : Value) : Hand [v] [] v
  | name (v : Value) : Hand [] [("value", v)] v
  | bare : Hand [] [] .none
section
variable {prog : Program} {w : World} {A : Around} {E : Value → Shared → Prop} {R : Result → Shared → Prop} {s : Shared} {K : Frag} {C T fI : Addr}
theorem err_init (Z : ErrC K C T) (I : ErrI K C fI) {x t0 : Addr} {v : Value} {us : List Value} {kw : List (Str × Value)} (hh : Hand us kw v) (X : K.In s.heap) (hlim : s.heap.NoLimit) (hx : s.heap.get? x = some (excO C t0)) (hroom : A.depth < recursionLimit)
    (hq : ∀ h' tk dx, InitEnd s.heap h' x C dx t0 v → R (.ok (.ret .none)) { s with heap := h', toks := tk }) :
    codeAny (model prog w) A (.call (.ref fI) ⟨.ref x :: us, kw⟩) R s := by
  obtain ⟨oc, od, doc, pm, kV, an, cdv, ct, osl, qn, D, oD, nD, p1, p2, p3, q1, q2, q3, q4, ho, hcd, hD, hDd⟩ := I.fn
  obtain ⟨nm, q, N, bs, sn, sub, ab, col, dd, k0, k1, k2, k3, k5, hC⟩ := Z.cls
  have hcl : clsIn K C = some { name := nm, bases := bs, mro := .ref C :: .ref T :: veTail, ns := N, qualname := q, hasDict := true, slotNames := sn, subclasses := sub, abstract := ab, collection := col, hasDel := false } := by unfold clsIn; rw [hC] <;> rfl
  have hbind : BindsTo s (fnOf "__init__" qn (iA p1 p2 p3) (iB q1 q2 q3 q4) iS (.ref D) kV doc pm an cdv ct) ⟨.ref x :: us, kw⟩ [("self", .ref x), ("value", v)] := by
    refine L2.BindsTo.of_looks fun M => ?_
    cases hh with
    | place => exact L2.looks_items X hD hDd (.of_pure rfl)
    | name => exact L2.looks_items X hD hDd (.of_pure rfl)
    | bare => exact L2.looks_items X hD hDd (.of_pure rfl)
  refine Att.call_fn (binds := [("self", .ref x), ("value", v)]) X hlim ho hcd hroom hbind (by first | rfl | decide | with_unfolding_all rfl) (fun s₁ IC => ?_) rfl rfl rfl
  obtain ⟨h₁, tk₁, rfl⟩ := IC.toInCall.same
  have k : ∀ b o, s.heap.get? b = some o → h₁.get? b = some o := IC.toInCall.keep
  have hn := IC.toInCall.ns
  have X₁ : K.In h₁ := X.keeps k
  have hx₁ := k _ _ hx
  -- self.value = value
  show wpAny _ _ (execs _ _) _ _ _
  refine wpAny_execs_cons (plainObj_wpAny_Assign_Attribute ?_)
  refine ldC (v := v) hn (by first | rfl | with_unfolding_all rfl | kernel_rfl) (ldC (v := .ref x) hn (by first | rfl | with_unfolding_all rfl | kernel_rfl) ?_)
  refine set_plain X₁ (ox := excO C t0) (od := none) ⟨hx₁, rfl, rfl, trivial⟩ Z.sa ?_
  refine exc_osa X₁ hx₁ hcl (show refsVE (.ref C :: .ref T :: veTail) = true from veRT T) rfl Z.noN (fun h₃ tk₃ dx k₃ dn dne hx₃ hn₃ => ?_)
  show wpAny _ _ (execs _ _) _ _ _
  have z : s.heap.objs.size < h₁.objs.size := hn.lt
  exact wpAny_execs_nil (hq h₃ tk₃ dx ⟨fun b o hb e => k₃ b o hb (k b o e), hx₃, Nat.le_of_lt (Nat.lt_of_lt_of_le z dn), dne, hn₃⟩)
theorem err_made (Z : ErrC K C T) (I : ErrI K C fI) {v : Value} {us : List Value} {kw : List (Str × Value)} (hh : Hand us kw v) (X : K.In s.heap) (hlim : s.heap.NoLimit) (hroom : A.depth + 1 < recursionLimit)
    (hq : ∀ h' tk e d, OwnMade s.heap h' e C d v → R (.ok (.ret (.ref e))) { s with heap := h', toks := tk }) :
    codeAny (model prog w) A (.call (.ref C) ⟨us, kw⟩) R s := by
  obtain ⟨nm, q, N, bs, sn, sub, ab, col, dd, k0, k1, k2, k3, k5, hC⟩ := Z.cls
  obtain ⟨hp, g, dr, tk, os⟩ := s
  have hus : us.length ≤ sizeLine := by
    cases hh with
    | place => exact one_size v
    | name => exact Nat.zero_le _
    | bare => exact Nat.zero_le _
  have k : ∀ b o, hp.get? b = some o → ((hp.push (kdv_tup us)).push (excO C hp.objs.size)).get? b = some o := fun b o e => Heap.get?_push_of_some _ (Heap.get?_push_of_some _ e)
  have hget : ((hp.push (kdv_tup us)).push (excO C hp.objs.size)).get? (hp.objs.size + 1) = some (excO C hp.objs.size) := by heap_get
  refine call_kw F.excBase_ValueError (fun X => refsVE_contains X _ (veRT T)) (X _ _ hC) (looks_findIn X I.iC) (fun self => bind_fn X self I.tC) hus ?_
  refine err_init (s := ⟨(hp.push (kdv_tup us)).push (excO C hp.objs.size), g, dr, tk, os⟩) Z I hh (X.keeps k) (hlim.keeps k) hget ?_ fun h' tk' dx ⟨k', hx, dn, dne, hns⟩ => ?_
  · show A.depth + 1 < recursionLimit
    exact hroom
  · have old : ∀ b o, hp.get? b = some o → h'.get? b = some o := fun b o e => k' b o (Nat.ne_of_lt (Nat.lt_succ_of_lt (Heap.lt_size e))) (k b o e)
    have z : hp.objs.size + 1 + 1 ≤ dx := by
      first
        | (simpa only [Heap.size_push] using dn)
        | exact dn
        | (have q := dn; rw [Heap.size_push, Heap.size_push] at q; exact q)
    exact ⟨rfl, hq h' tk' (hp.objs.size + 1) dx ⟨old, Nat.le_succ _, ⟨_, hx⟩, Nat.le_trans (Nat.le_trans (Nat.le_succ _) (Nat.le_succ _)) z, dne, hns⟩⟩
end
end EV
end PySem

set_option Elab.async false
set_option linter.all false
set_option maxRecDepth 100000
set_option maxHeartbeats 4000000
/-! own exceptions as values, over the layer -/
namespace EL
open PySem PySem.Spec PyProof.Rows L2
open PySem.EV (ErrC ErrI Hand OwnMade)
/-! ### readings may be asked for more -/
section
variable {X : Cx}
theorem _root_.L2.PE.imp {e : Expr} {t u : TE} (h : PE X e t) (k : ∀ σ H Q, u σ H Q → t σ H Q) : PE X e u := ⟨fun pins s σ H Q I q => h.run pins s σ H Q I (k _ _ _ q)⟩
theorem _root_.L2.PA.imp {es : List Expr} {t u : TA} (h : PA X es t) (k : ∀ σ H Q, u σ H Q → t σ H Q) : PA X es u := ⟨fun pos pins s σ H Q I q => h.run pos pins s σ H Q I (k _ _ _ q)⟩
theorem _root_.L2.PT.imp {e : Expr} {t u : TT} (h : PT X e t) (k : ∀ σ H Q, u σ H Q → t σ H Q) : PT X e u := ⟨fun pins s σ H Q I q => h.run pins s σ H Q I (k _ _ _ q)⟩
theorem _root_.L2.PS.imp {st : Stmt} {t u : TS} (h : PS X st t) (k : ∀ D σ H, u D σ H → t D σ H) : PS X st u := ⟨fun pins s σ H D I q => h.run pins s σ H D I (k _ _ _ q)⟩
theorem _root_.L2.PSs.imp {st : List Stmt} {t u : TS} (h : PSs X st t) (k : ∀ D σ H, u D σ H → t D σ H) : PSs X st u := ⟨fun pins s σ H D I q => h.run pins s σ H D I (k _ _ _ q)⟩
end
/-! ### a made error: its object at e, its dict -/
def IsErr (H : Hp) (e C : Addr) (v : V) : Prop := ∃ dx, H e = some (exo e C (some dx)) ∧ H dx = some (.xd [("value", v)])
theorem IsErr.same {H H' : Hp} {e C : Addr} {v : V} (h : IsErr H e C v) (s : Same H H') : IsErr H' e C v := by
  obtain ⟨dx, a, b⟩ := h
  exact ⟨dx, s _ _ a, s _ _ b⟩
theorem relO_value {v : V} {v' : Value} (r : RelV v v') (f : Str) : RelO (List.lookup f [(("value" : Str), v)]) (if f = "value" then some v' else none) := by
  by_cases hw : f = "value"
  · subst hw
    rw [if_pos rfl]
    have q : List.lookup ("value" : Str) [(("value" : Str), v)] = some v := by simp [List.lookup]
    rw [q]
    exact r
  · rw [if_neg hw]
    have qw : (f == ("value" : Str)) = false := by simpa using hw
    have q2 : List.lookup f [(("value" : Str), v)] = none := by simp [List.lookup, qw]
    rw [q2]; exact True.intro
section
variable {X : Cx} {pins : List (Addr × Obj)} {σ : L2.St} {H : Hp} {s : Shared} {C T fI : Addr}
/-- two new objects are laid at once -/
theorem inv_two {h' : Heap} {t' : Nat} {a d : Addr} {o u : HO} (I : Inv X pins σ H s) (k : ∀ b o, s.heap.get? b = some o → h'.get? b = some o) (ha : s.heap.objs.size ≤ a) (hd : s.heap.objs.size ≤ d) (hne : d ≠ a)
    (na : ObjOk X.prog X.w (upd (upd H d u) a o) h' a o) (nd : ObjOk X.prog X.w (upd (upd H d u) a o) h' d u) : Inv X pins σ (upd (upd H d u) a o) { s with heap := h', toks := t' } := by
  have hna : H a = none := I.hok.fresh ha
  have hnd : H d = none := I.hok.fresh hd
  have old : ∀ {b : Addr} {q : Obj}, s.heap.get? b = some q → b ≠ a ∧ b ≠ d := fun {b q} z => ⟨Nat.ne_of_lt (Nat.lt_of_lt_of_le (Heap.lt_size z) ha), Nat.ne_of_lt (Nat.lt_of_lt_of_le (Heap.lt_size z) hd)⟩
  have at_ : ∀ {b : Addr} {q : HO}, H b = some q → upd (upd H d u) a o b = some q := fun {b q} z => by
    rw [upd_ne (ne_of_none z hna), upd_ne (ne_of_none z hnd)]
    exact z
  refine I.un (h' := h') (t' := t') {
    keep := fun b q z _ _ _ => k b q z
    slot := fun b q z _ _ _ => ⟨q.slots, k b q z⟩
    free := fun b q z n _ => by rw [upd_ne (old z).1, upd_ne (old z).2]; exact n
    there := fun b q z _ => ⟨q, k b q z⟩
    tups := fun b xs z => at_ z
    frzs := fun b q v z => at_ z
    tbls := fun b ps z => ⟨#[], by rw [at_ z]; simp⟩ } fun b q z => ?_
  by_cases hb : b = a
  · subst hb
    rw [upd_same] at z
    cases z
    exact na
  · rw [upd_ne hb] at z
    by_cases hb2 : b = d
    · subst hb2
      rw [upd_same] at z
      cases z
      exact nd
    · rw [upd_ne hb2] at z
      exact (I.hok b q z).stay (fun c v _ y => k c v y) (fun c y => at_ y) fun c xs y => at_ y
/-- the heap behind C(..) -/
theorem err_end {h' : Heap} {t' : Nat} {e d : Addr} {v : V} {u : Value} (I : Inv X pins σ H s) (M : OwnMade s.heap h' e C d u) (r : RelV v u) :
    ∃ H2, Inv X pins σ H2 { s with heap := h', toks := t' } ∧ Same H H2 ∧ H e = none ∧ IsErr H2 e C v := by
  obtain ⟨t1, ho⟩ := M.obj
  have hne : H e = none := I.hok.fresh M.new
  have hnd : H d = none := I.hok.fresh M.dbig
  refine ⟨upd (upd H d (.xd [("value", v)])) e (exo e C (some d)), inv_two I M.keep M.new M.dbig M.dne (exo_ok ho) ⟨_, M.ns, fun f => relO_value r f⟩, fun b o z => ?_, hne, d, upd_same, ?_⟩
  · rw [upd_ne (ne_of_none z hne), upd_ne (ne_of_none z hnd)]
    exact z
  · rw [upd_ne M.dne, upd_same]
theorem run_err {k : Nat} (Z : ErrC X.K C T) (J : ErrI X.K C fI) (hr : Room k X.A) (I : Inv X pins σ H s) {us : List Value} {kw : List (Str × Value)} {u : Value} {v : V} {Q : VK} (hh : Hand us kw u) (r : RelV v u)
    (q : ∀ e H2, Same H H2 → H e = none → IsErr H2 e C v → Q (.ref e) H2) : wpAny (model X.prog X.w) X.A (call (.ref C) us kw) (EP X pins σ Q) X.xe s := by
  have hlim := I.nolimit
  obtain ⟨hp, g, dr, tk, os⟩ := s
  refine wpAny_call (PySem.EV.err_made Z J hh I.kIn hlim (by have := hr.dp; omega) fun h' tk' e d M => ?_)
  obtain ⟨H2, I2, sm, n, er⟩ := err_end (t' := tk') I M r
  exact ⟨.ref e, H2, I2, rfl, q e H2 sm n er⟩
end
/-! ### C(e), C(value=e), C() -/
def oneV (R : V → Hp → Prop) : List V → Hp → Prop := fun vs H => match vs with
  | [v] => R v H
  | _ => False
theorem oneV_of {R : V → Hp → Prop} {vs : List V} {H : Hp} (h : oneV R vs H) : ∃ v, vs = [v] ∧ R v H := by
  match vs, h with
  | [v], h => exact ⟨v, rfl, h⟩
section
variable {X : Cx} {C T fI : Addr} {x : Str} {e : Expr} {te : TE} {p pos kpos : Pos} {k : Nat}
def tErr (C : Addr) (te : TE) : TE := fun σ H Q => te σ H fun v H1 => ∀ e H2, Same H1 H2 → H1 e = none → IsErr H2 e C v → Q (.ref e) H2
theorem pe_err (Z : ErrC X.K C T) (J : ErrI X.K C fI) (hr : Room k X.A) (hm : X.mg x = some (.ref C)) (he : PE X e te) (hg : Gl X x := by rfl) (hdb : (x == ("__debug__" : Str)) = false := by decide)
    (hs : starEach (e :: []) X.env = (false, eval e X.env) :: starEach [] X.env := by rfl) (hpl : (backTo pos (starEach [] X.env)).any (·.1) = false := by rfl) : PE X (.Call (.Name x p) [e] [] pos) (tErr C te) := by
  refine ⟨fun pins s σ H Q I h => ?_⟩
  refine wpAny_Call_Name_kw (ld_glob I hg hm ?_ hdb)
  refine PySem.W.callWith_K (h₀ := X.base) I.ok.mod.kin Z.kC (thn ((pa_cons he pa_nil hs).run pos pins s σ H (oneV fun v H1 => ∀ e H2, Same H1 H2 → H1 e = none → IsErr H2 e C v → Q (.ref e) H2) I h) fun us s1 ⟨vs, H1, I1, r, q1⟩ => ⟨I1.kIn, ?_⟩) hs hpl
  obtain ⟨v, ev, q⟩ := oneV_of q1
  subst ev
  cases r with
  | cons rv rn =>
    cases rn
    exact run_err Z J hr I1 (.place _) rv q
theorem pe_errK (Z : ErrC X.K C T) (J : ErrI X.K C fI) (hr : Room k X.A) (hm : X.mg x = some (.ref C)) (he : PE X e te) (hg : Gl X x := by rfl) (hdb : (x == ("__debug__" : Str)) = false := by decide) : PE X (.Call (.Name x p) [] [⟨some "value", e, kpos⟩] pos) (tErr C te) := by
  refine ⟨fun pins s σ H Q I h => ?_⟩
  refine wpAny_Call_Name_kw (ld_glob I hg hm ?_ hdb)
  refine PySem.W.callWith_KW0 (h₀ := X.base) I.ok.mod.kin Z.kC rfl (thn ((pk_cons (nm := some "value") (kpos := kpos) he pk_nil).run pos pins s σ H (oneV fun v H1 => ∀ e H2, Same H1 H2 → H1 e = none → IsErr H2 e C v → Q (.ref e) H2) I h) fun us s1 ⟨vs, H1, I1, r, q1⟩ => ⟨I1.kIn, ?_⟩)
  obtain ⟨v, ev, q⟩ := oneV_of q1
  subst ev
  cases r with
  | cons rv rn =>
    cases rn
    exact run_err Z J hr I1 (.name _) rv q
theorem pe_err0 (Z : ErrC X.K C T) (J : ErrI X.K C fI) (hr : Room k X.A) (hm : X.mg x = some (.ref C)) (hg : Gl X x := by rfl) (hdb : (x == ("__debug__" : Str)) = false := by decide) : PE X (.Call (.Name x p) [] [] pos) (tErr C (tC .non)) := by
  refine ⟨fun pins s σ H Q I h => ?_⟩
  refine wpAny_Call_Name_kw (ld_glob I hg hm ?_ hdb)
  exact PySem.W.callWith_K0 I.kIn Z.kC (run_err (us := []) (v := .non) Z J hr I .bare rfl h)
end
/-! ### e.value -/
section
variable {X : Cx} {C T fI : Addr} {x : Str} {e : Expr} {te : TE} {p pos kpos : Pos} {k : Nat}
theorem exo_inst {P : Program} {w : World} {H : Hp} {h : Heap} {e C dx : Addr} {v : V} (ok : HOk P w H h) (ea : H e = some (exo e C (some dx))) (ed : H dx = some (.xd [("value", v)])) :
    ∃ ox od u, PySem.W.InstAt h e ox C (some od) ∧ PySem.W.lookIn "value" od = some (some u) ∧ RelV v u := by
  obtain ⟨t1, ho⟩ := exo_at ok ea
  obtain ⟨mA, hns, hr⟩ := (show ObjOk P w H h dx (.xd [("value", v)]) from ok dx _ ed)
  obtain ⟨od, hod, hl⟩ := lookIn_ns hns
  have l : List.lookup ("value" : Str) [(("value" : Str), v)] = some v := by simp [List.lookup]
  obtain ⟨u, hu, ru⟩ := RelO.some_of (v := v) (o := mA "value") (by rw [← l]; exact hr "value")
  exact ⟨_, od, u, ⟨ho, rfl, rfl, hod⟩, by rw [hl, hu], ru⟩
theorem err_hd {K : PySem.W.Frag} (Z : ErrC K C T) : PySem.W.hasDictIn K C = true := by
  obtain ⟨nm, q, N, bs, sn, sub, ab, col, dd, k0, k1, k2, k3, k5, hC⟩ := Z.cls
  unfold PySem.W.hasDictIn PySem.W.clsIn
  rw [hC]
  rfl
theorem err_sub {K : PySem.W.Frag} (Z : ErrC K C T) (c : Value) : PySem.W.subIn K (.ref C) c = some ((Value.ref C :: .ref T :: HandSPX.veTail).contains c) := by
  obtain ⟨nm, q, N, bs, sn, sub, ab, col, dd, k0, k1, k2, k3, k5, hC⟩ := Z.cls
  show PySem.W.mroIn K C c = _
  unfold PySem.W.mroIn PySem.W.clsIn
  rw [hC]
  rfl
def tValue (K : PySem.W.Frag) (te : TE) : TE := fun σ H Q => te σ H fun x H1 => ∃ (e C : Addr) (v : V), x = .ref e ∧ IsErr H1 e C v ∧ (∃ T, ErrC K C T) ∧ Q v H1
theorem pe_value (he : PE X e te) (hb : attributeBase e "value" X.env (eval e X.env) = eval e X.env := by rfl) : PE X (.Attribute e "value" pos) (tValue X.K te) := by
  refine ⟨fun pins s σ H Q I h => ?_⟩
  refine attr_of hb (thn (he.run pins s σ H _ I h) fun u s1 hh => ?_)
  obtain ⟨x, H1, I1, rx, e, C, v, ex, ⟨dx, ea, ed⟩, ⟨T, Z⟩, q⟩ := hh
  subst ex
  obtain rfl : u = Value.ref e := rx
  obtain ⟨ox, od, u, J, l, ru⟩ := exo_inst I1.hok ea ed
  have hs : PySem.W.subIn X.K (.ref C) (.type "BaseException") = some true := (err_sub Z _).trans (by rw [List.contains_cons, List.contains_cons]; rfl)
  exact HandSPX.exc_get I1.kIn J Z.ga Z.gg hs (PySem.W.findObj_own (err_hd Z) Z.noN rfl l) (handed_of ru) ⟨v, H1, I1.tok _, ru, q⟩
end
end EL

set_option Elab.async false
set_option linter.all false
set_option maxRecDepth 100000
set_option maxHeartbeats 4000000
/-! isinstance of own errors as values -/
namespace PySem.W
open PySem PySem.Spec PySem.Calls PyProof.Rows
section
variable {prog : Program} {w : World} {A : Around} {E : Value → Shared → Prop} {s : Shared} {K : Frag} {x D : Addr} {ox : Obj} {od : Option Obj}
theorem ev_findObj {C : Addr} {name : Str} {a g : Value} (hc : (clsIn K C).isSome = true) (ha : findIn K (.ref C) name = some (some a)) (hg : specialIn K a "__get__" = some (some g)) (ht : takesIn K a = some true) : findObj K C od name = some (.bind g a) := by
  obtain ⟨cd, hc⟩ := Option.isSome_iff_exists.mp hc
  unfold findObj
  rw [hc, Option.bind_some, ha, Option.bind_some]
  simp [hg, ht]
theorem ev_class {Q : Option Value → Shared → Prop} (hga : findIn K (.ref D) "__getattribute__" = some (some (.builtin "BaseException.__getattribute__"))) (hgt : findIn K (.ref D) "__getattr__" = some none) (hsub : subIn K (.ref D) (.type "BaseException") = some true)
    (hdct : hasDictIn K D = true) (ha : findIn K (.ref D) "__class__" = some (some (.builtin "object.__class__")))
    (hn : specialIn K (.builtin "object.__class__") "__get__" = some (some (.builtin "getset_descriptor.__get__"))) (htk : takesIn K (.builtin "object.__class__") = some true) (hm : mroIn K D (.type "object") = some true)
    (X : K.In s.heap) (I : InstAt s.heap x ox D od) (h : Q (some (.ref D)) { s with toks := s.toks + 1 }) : wpAny (model prog w) A (getAttr? (.ref x) "__class__") Q E s := by
  have hf : findObj K D od "__class__" = some (.bind (.builtin "getset_descriptor.__get__") (.builtin "object.__class__")) := ev_findObj (by obtain ⟨cd, hc, _⟩ := any_some hdct; rw [hc]; rfl) ha hn htk
  obtain ⟨hp, g, d, t, os⟩ := s
  have L0 := I.type (M := model prog w)
  have L1 := looks_findIn (M := model prog w) X hga
  have L2 := looks_findIn (M := model prog w) X hgt
  have L3 := looks_find (M := model prog w) X I hf
  have sub : Looks (model prog w) hp (isInstance (.ref x) (.type "BaseException")) true := L0.andThen (looks_subIn X hsub)
  have hx0 : (false && onTheHeap (Value.builtin "BaseException.__getattribute__")) = false := rfl
  have hx2 : (Value.builtin "BaseException.__getattribute__" == Value.builtin "object.__getattribute__") = false := by decide +kernel
  have hx1 : (onTheHeap (Value.ref D) && Value.builtin "BaseException.__getattribute__" == Value.builtin "object.__getattribute__") = false := by rw [hx2]; rfl
  unfold getAttr? getAttrBy? getAttrBy
  refine wpAny_bind (wpAny_mkText (wpAny_bind (wpAny_attempt (wpAny_holding (wpAny_bind (L0.at (wpAny_bind (L1.at ?_))))))))
  show wpAny _ _ (if (onTheHeap (Value.ref D) && Value.builtin "BaseException.__getattribute__" == Value.builtin "object.__getattribute__") = true then _ else _) _ _ _
  rw [hx1, if_neg Bool.false_ne_true]
  unfold getAttrByItsOwn hookBefore
  refine wpAny_bind ?_
  rw [if_pos (show onTheHeap (Value.ref D) = true from rfl)]
  refine L2.at ?_
  refine wpAny_bind (wpAny_attempt (wpAny_holding ?_))
  unfold callGetattribute
  rw [hx0, if_neg Bool.false_ne_true]
  unfold boundAndCalled
  rw [PySem.F.excAttr_ValueError.ga.bind (.ref x)]
  refine wpAny_bind (wpAny_pure ?_)
  show wpAny _ _ (call (.builtin "BaseException.__getattribute__") [.ref x, .str "__class__" t]) _ _ _
  refine wpAny_call (codeAny_call_builtin PySem.F.excAttr_ValueError.ga.plain PySem.F.entry_bexc_ga ?_)
  refine @check_slot (model prog w) _ _ ⟨hp, g, d, t + 1, os⟩ "BaseException.__getattribute__" "BaseException" "__getattribute__" (.ref x) [.str "__class__" t] [] _ (by decide +kernel) (by decide +kernel) sub (PySem.F.args_bexc_ga (.ref x) (.str "__class__" t)) ?_
  unfold Builtin.«object.__getattribute__»
  refine wpAny_bind (wpAny_of_eq (a := ((Value.ref x : Value), [Value.str "__class__" t])) (by first | rfl | (simp only [slotArgs]; rfl)) ?_)
  refine wpAny_bind (wpAny_pure (wpAny_bind (L0.at (wpAny_bind (L3.at ?_)))))
  show wpAny _ _ (holding [Value.builtin "object.__class__"] (call (.builtin "getset_descriptor.__get__") [.builtin "object.__class__", .ref x, .ref D]) >>= ret) _ _ _
  refine wpAny_bind (wpAny_holding (wpAny_call (class_get (s := ⟨hp, g, d, t + 1, os⟩) (ox := ox) (od := od) X I hm ?_)))
  refine wpAny_pure ?_
  show wpAny _ _ (handedOut (.ref D)) _ _ _
  rw [handedOut_of (v := .ref D) rfl]
  first
    | exact wpAny_pure (wpAny_pure h)
    | exact wpAny_pure h
    | exact wpAny_pure (wpAny_bind (wpAny_pure (wpAny_pure h)))
theorem ev_kitx (hga : findIn K (.ref D) "__getattribute__" = some (some (.builtin "BaseException.__getattribute__"))) (hgt : findIn K (.ref D) "__getattr__" = some none) (hsub : subIn K (.ref D) (.type "BaseException") = some true) (hdct : hasDictIn K D = true) (ha : findIn K (.ref D) "__class__" = some (some (.builtin "object.__class__")))
    (hn : specialIn K (.builtin "object.__class__") "__get__" = some (some (.builtin "getset_descriptor.__get__"))) (htk : takesIn K (.builtin "object.__class__") = some true) (hm : mroIn K D (.type "object") = some true) :
    KitX K (.ref x) (.ref D) (fun h => InstAt h x ox D od) where
  ty := fun _ _ _ I => I.type
  it := fun _ _ X _ => by
    obtain ⟨cdD, hcD, _⟩ := any_some hdct
    unfold clsIn at hcD
    split at hcD
    · rename_i c' d' cd' sl' ho
      intro A' Q' E' s' k q
      unfold isType loadHead
      exact wpAny_bind (wpAny_loadPart (k _ _ (X _ _ ho)) (wpAny_pure q))
    · cases hcD
  ne := fun h tp dd its n sl X htp => by
    obtain ⟨cdD, hcD, _⟩ := any_some hdct
    refine Bool.eq_false_iff.mpr fun q => ?_
    have e : D = tp := Value.ref.inj (beq_iff_eq.mp q)
    subst e
    unfold clsIn at hcD
    split at hcD
    · rename_i c' d' cd' sl' ho
      have z := (X _ _ ho).symm.trans htp
      cases z
    · cases hcD
  ca := fun X I k => ev_class hga hgt hsub hdct ha hn htk hm X I k
end
end PySem.W
namespace EL
open PySem PySem.Spec PyProof.Rows L2
open PySem.EV (ErrC ErrI Hand OwnMade)
/-- the classes: errors of the table (mro: itself, the base at T, ValueError's), or the base -/
structure CatC (K : PySem.W.Frag) (C : Addr) (bm : List Value) : Prop where
  cls : ∃ nm q N bs sn sub ab col dd k0 k1 k2 k3 k5, K.lookup C = some (excClassObj nm q C N bs bm true sn sub ab col dd k0 k1 k2 k3 k5 "ValueError.__new__")
  ga : PySem.W.findIn K (.ref C) "__getattribute__" = some (some (.builtin "BaseException.__getattribute__"))
  gg : PySem.W.findIn K (.ref C) "__getattr__" = some none
  ca : PySem.W.findIn K (.ref C) "__class__" = some (some (.builtin "object.__class__"))
  bm : HandSPX.refsVE bm = true
theorem ErrC.cat {K : PySem.W.Frag} {C T : Addr} (Z : ErrC K C T) : CatC K C (.ref T :: HandSPX.veTail) := ⟨Z.cls, Z.ga, Z.gg, Z.ca, PySem.EV.veRT T⟩
section
variable {K : PySem.W.Frag} {C : Addr} {bm : List Value}
theorem CatC.sub (Z : CatC K C bm) (c : Value) : PySem.W.subIn K (.ref C) c = some ((Value.ref C :: bm).contains c) := by
  obtain ⟨nm, q, N, bs, sn, sub, ab, col, dd, k0, k1, k2, k3, k5, hC⟩ := Z.cls
  show PySem.W.mroIn K C c = _
  unfold PySem.W.mroIn PySem.W.clsIn
  rw [hC]
  rfl
theorem CatC.hd (Z : CatC K C bm) : PySem.W.hasDictIn K C = true := by
  obtain ⟨nm, q, N, bs, sn, sub, ab, col, dd, k0, k1, k2, k3, k5, hC⟩ := Z.cls
  unfold PySem.W.hasDictIn PySem.W.clsIn
  rw [hC]
  rfl
theorem CatC.some (Z : CatC K C bm) : (PySem.W.clsIn K C).isSome = true := by
  obtain ⟨nm, q, N, bs, sn, sub, ab, col, dd, k0, k1, k2, k3, k5, hC⟩ := Z.cls
  unfold PySem.W.clsIn
  rw [hC]
  rfl
theorem CatC.ty (Z : CatC K C bm) : PySem.W.typeIn K (.ref C) = Option.some (.type "type") := by
  obtain ⟨nm, q, N, bs, sn, sub, ab, col, dd, k0, k1, k2, k3, k5, hC⟩ := Z.cls
  show (K.lookup C).map (·.cls) = _
  rw [hC]
  rfl
/-- isinstance's answer for an own class -/
theorem CatC.kit {C' : Addr} {bm' : List Value} (Z : CatC K C bm) (Z' : CatC K C' bm') : PySem.W.kitOne K (.ref C) (.ref C') = Option.some ((Value.ref C :: bm).contains (.ref C')) := by
  unfold PySem.W.kitOne
  by_cases h : (Value.ref C == Value.ref C') = true
  · rw [if_pos h, List.contains_cons]
    have h2 : (Value.ref C' == Value.ref C) = true := by
      rw [beq_iff_eq] at h ⊢
      exact h.symm
    rw [h2]
    rfl
  · rw [if_neg h]
    show (if ((PySem.W.clsIn K C').isSome && PySem.W.typeIn K (.ref C') == Option.some (.type "type")) = true then PySem.W.subIn K (.ref C) (.ref C') else none) = _
    rw [Z'.some, Z'.ty, if_pos (by rfl)]
    exact Z.sub _
/-- and for ValueError -/
theorem CatC.kitVE (Z : CatC K C bm) : PySem.W.kitOne K (.ref C) (.type "ValueError") = Option.some true := by
  unfold PySem.W.kitOne
  have hne : ¬ (Value.ref C == Value.type "ValueError") = true := fun z => by
    have z2 := beq_iff_eq.mp z
    cases z2
  rw [if_neg hne]
  show (if PySem.W.kitMeta "ValueError" = true then PySem.W.subIn K (.ref C) (.type "ValueError") else none) = _
  rw [if_pos (by decide +kernel), Z.sub, List.contains_cons, HandSPX.refsVE_contains "ValueError" _ Z.bm]
  rfl
end
/-- the descriptor's own facts -/
structure DscC (K : PySem.W.Frag) : Prop where
  hn : PySem.W.specialIn K (.builtin "object.__class__") "__get__" = some (some (.builtin "getset_descriptor.__get__"))
  ht : PySem.W.takesIn K (.builtin "object.__class__") = some true
/-- isinstance(e, c): e an error of the class at C with or without a dict -/
def rIsX (K : PySem.W.Frag) : List V → Hp → VK → Prop := fun xs H Q => ∃ (e C : Addr) (d : Option Addr) (bm : List Value) (c : V) (cv : Value) (b : Bool), xs = [.ref e, c] ∧ H e = some (exo e C d) ∧ CatC K C bm ∧ ClsV c cv ∧
  (∀ dx, d = some dx → ∃ fs, H dx = some (.xd fs)) ∧ PySem.W.kitOne K (.ref C) cv = some b ∧ Q (.bl b) H
theorem call_isX {X : Cx} (DC : DscC X.K) : CallR X (.builtin "isinstance") (rIsX X.K) := by
  intro pins s σ H xs us Q I r h
  obtain ⟨e, C, d, bm, c, cv, b, rfl, ea, Z, hcv, hd, ek, q⟩ := h
  cases r with
  | cons rx rr =>
    cases rr with
    | cons rt rr =>
      cases rr
      cases rx
      have ec := hcv.eq rt
      subst ec
      obtain ⟨t1, ho⟩ := exo_at I.hok ea
      have J : ∃ od, PySem.W.InstAt s.heap e { cls := .ref C, dict := d, data := .fields #[.ref t1, .none, .none, .none, .bool false, .none] } C od := by
        cases d with
        | none => exact ⟨none, ho, rfl, rfl, trivial⟩
        | some dx =>
          obtain ⟨fs, ed⟩ := hd dx rfl
          obtain ⟨mA, hns, hr⟩ := (show ObjOk X.prog X.w H s.heap dx (.xd fs) from I.hok dx _ ed)
          obtain ⟨od, hod, _⟩ := lookIn_ns hns
          exact ⟨some od, ho, rfl, rfl, hod⟩
      obtain ⟨od, J⟩ := J
      have hs : PySem.W.subIn X.K (.ref C) (.type "BaseException") = some true := by
        rw [Z.sub, List.contains_cons, HandSPX.refsVE_contains "BaseException" _ Z.bm]
        rfl
      have hm : PySem.W.mroIn X.K C (.type "object") = some true := by
        show PySem.W.subIn X.K (.ref C) (.type "object") = _
        rw [Z.sub, List.contains_cons, HandSPX.refsVE_contains "object" _ Z.bm]
        rfl
      exact PySem.W.kia_one (PySem.W.ev_kitx Z.ga Z.gg hs Z.hd Z.ca DC.hn DC.ht hm) I.kIn J ek (fun z => nomatch z) fun tk => ⟨.bl b, H, I.tok tk, rfl, q⟩
/-! ### C() of a class without __init__ -/
def tBareErr (C : Addr) : TE := fun _ H Q => ∀ e H2, Same H H2 → H e = none → H2 e = some (exo e C none) → Q (.ref e) H2
theorem pe_bareErr {X : Cx} {C : Addr} {x : Str} {p pos : Pos} (q : PySem.W.excIn X.K C HandSPX.veTail "ValueError.__new__" = true) (kC : PySem.W.keepIn X.K (.ref C) = true) (hm : X.mg x = some (.ref C)) (hg : Gl X x := by rfl) (hdb : (x == ("__debug__" : Str)) = false := by decide) :
    PE X (.Call (.Name x p) [] [] pos) (tBareErr C) := by
  refine ⟨fun pins s σ H Q I h => ?_⟩
  refine wpAny_Call_Name_kw (ld_glob I hg hm ?_ hdb)
  refine PySem.W.callWith_K0 I.kIn kC ?_
  show wpAny _ _ (call (.ref C) []) _ _ _
  obtain ⟨bm, N, nm, qn, bs, hdct, sn, sub, ab, col, dd, k0, k1, k2, k3, k5, mN, hC, hN, hni, T⟩ := exc_obj I.kIn q
  refine wpAny_call_exc_subT PySem.F.excBase_ValueError T hC hN hni (fun h' a hm => ?_) (Nat.zero_le _)
  have hn : H a = none := I.hok.gone hm.new
  obtain ⟨t, ht, _, _⟩ := hm.there
  exact ⟨.ref a, upd H a (exo a C none), I.laidN hm.keeps hm.new hn (exo_ok ht), rfl, h a _ (fun b o z => by rw [upd_ne (ne_of_none z hn)]; exact z) hn upd_same⟩
end EL

set_option Elab.async false
set_option linter.all false
/-! k02: lines and texts as lists of code points -/
namespace Ln
abbrev L := List Nat
def isLet (c : Nat) : Bool := decide (97 ≤ c) && decide (c ≤ 122)
def isFig (c : Nat) : Bool := decide (48 ≤ c) && decide (c ≤ 57)
def grp (c : Nat) : Nat := if isLet c then 97 else if isFig c then 48 else c
/-- does a sign go on with what ran so far -/
def goes (r c : Nat) : Bool := (grp c == r && (grp c == 97 || grp c == 48)) || (grp c == 97 && r == 39)
def addLast (xs : List L) (c : Nat) : List L := xs.dropLast ++ [xs.getLastD [] ++ [c]]
def stepL (s : List L × Nat) (c : Nat) : List L × Nat := if goes s.2 c then (addLast s.1 c, grp c) else if c = 32 then (s.1, grp c) else (s.1 ++ [[c]], grp c)
def scan (l : L) : List L := (l.foldl stepL ([], 32)).1
theorem addLast_snoc (xs : List L) (t : L) (c : Nat) : addLast (xs ++ [t]) c = xs ++ [t ++ [c]] := by
  unfold addLast
  rw [List.dropLast_concat]
  simp
/-- what the program cuts -/
def cutN : Nat → L → List L
  | 0, _ => []
  | _, [] => []
  | n + 1, c :: cs =>
    if c = 39 ∧ (cs.head?.elim false isLet) = true then (c :: cs.takeWhile isLet) :: cutN n (cs.dropWhile isLet)
    else if isLet c then (c :: cs.takeWhile isLet) :: cutN n (cs.dropWhile isLet)
    else if isFig c then (c :: cs.takeWhile isFig) :: cutN n (cs.dropWhile isFig)
    else if c = 32 then cutN n cs else [c] :: cutN n cs
theorem drop_le (p : Nat → Bool) (cs : L) : (cs.dropWhile p).length ≤ cs.length := (List.dropWhile_sublist p).length_le
theorem drop_head (p : Nat → Bool) : ∀ cs : L, ∀ c, (cs.dropWhile p).head? = some c → p c = false
  | [], c, h => by simp at h
  | d :: ds, c, h => by
    rw [List.dropWhile_cons] at h
    split at h
    · exact drop_head p ds c h
    · simp at h
      subst h
      simpa using ‹¬ p d = true›
/-- no sign ahead goes on with r -/
def Closed (r : Nat) (cs : L) : Prop := ∀ c, cs.head? = some c → goes r c = false
theorem let_grp {c : Nat} (h : isLet c = true) : grp c = 97 := by unfold grp; rw [if_pos h]
theorem fig_not_let {c : Nat} (h : isFig c = true) : isLet c = false := by
  unfold isFig at h; unfold isLet
  simp at h ⊢
  omega
theorem fig_grp {c : Nat} (h : isFig c = true) : grp c = 48 := by unfold grp; rw [fig_not_let h, if_pos h]; simp
theorem grp_let {c : Nat} (h : grp c = 97) : isLet c = true := by
  unfold grp at h
  split at h
  · assumption
  · split at h
    · omega
    · subst h; decide
theorem grp_fig {c : Nat} (h : grp c = 48) : isFig c = true := by
  unfold grp at h
  split at h
  · omega
  · split at h
    · assumption
    · subst h; decide
theorem goes_let (c : Nat) : goes 97 c = isLet c := by
  unfold goes
  cases h : isLet c with
  | true => rw [let_grp h]; rfl
  | false =>
    have : ¬ grp c = 97 := fun e => by rw [grp_let e] at h; cases h
    simp [this]
theorem goes_fig (c : Nat) : goes 48 c = isFig c := by
  unfold goes
  cases h : isFig c with
  | true => rw [fig_grp h]; rfl
  | false =>
    have : ¬ grp c = 48 := fun e => by rw [grp_fig e] at h; cases h
    simp [this]
theorem goes_quote (c : Nat) : goes 39 c = isLet c := by
  unfold goes
  cases h : isLet c with
  | true => rw [let_grp h]; rfl
  | false =>
    have h1 : ¬ grp c = 97 := fun e => by rw [grp_let e] at h; cases h
    have h2 : (grp c == 39 && (grp c == 97 || grp c == 48)) = false := by
      by_cases e : grp c = 39
      · rw [e]; rfl
      · simp [e]
    rw [h2]
    simp [h1]
theorem goes_other {r : Nat} (h1 : r ≠ 97) (h2 : r ≠ 48) (h3 : r ≠ 39) (c : Nat) : goes r c = false := by
  unfold goes
  by_cases e : grp c = r
  · rw [e]
    simp [h1, h2, h3]
  · simp [e, h3]
theorem fold_run (p : Nat → Bool) (r : Nat) (hg : ∀ c, p c = true → goes r c = true ∧ grp c = r) : ∀ (cs : L) (xs : List L) (t : L), List.foldl stepL (xs ++ [t], r) cs = List.foldl stepL (xs ++ [t ++ cs.takeWhile p], r) (cs.dropWhile p)
  | [], xs, t => by simp
  | c :: cs, xs, t => by
    rw [List.takeWhile_cons, List.dropWhile_cons]
    cases h : p c with
    | false => simp
    | true =>
      obtain ⟨g1, g2⟩ := hg c h
      rw [List.foldl_cons]
      have e : stepL (xs ++ [t], r) c = (xs ++ [t ++ [c]], r) := by
        unfold stepL
        rw [if_pos g1, addLast_snoc, g2]
      rw [e, fold_run p r hg cs xs (t ++ [c])]
      simp
theorem run_let (cs : L) (xs : List L) (t : L) : List.foldl stepL (xs ++ [t], 97) cs = List.foldl stepL (xs ++ [t ++ cs.takeWhile isLet], 97) (cs.dropWhile isLet) :=
  fold_run isLet 97 (fun c h => ⟨by rw [goes_let]; exact h, let_grp h⟩) cs xs t
theorem run_fig (cs : L) (xs : List L) (t : L) : List.foldl stepL (xs ++ [t], 48) cs = List.foldl stepL (xs ++ [t ++ cs.takeWhile isFig], 48) (cs.dropWhile isFig) :=
  fold_run isFig 48 (fun c h => ⟨by rw [goes_fig]; exact h, fig_grp h⟩) cs xs t
/-- a quote and a letter: the run of letters -/
theorem run_quote {d : Nat} (hd : isLet d = true) (ds : L) (xs : List L) : List.foldl stepL (xs ++ [[39]], 39) (d :: ds) = List.foldl stepL (xs ++ [39 :: (d :: ds).takeWhile isLet], 97) ((d :: ds).dropWhile isLet) := by
  rw [List.foldl_cons]
  have e : stepL (xs ++ [[39]], 39) d = (xs ++ [[39, d]], 97) := by
    unfold stepL
    rw [if_pos (by rw [goes_quote]; exact hd), addLast_snoc, let_grp hd]
    rfl
  rw [e, run_let, List.takeWhile_cons, List.dropWhile_cons, if_pos hd, if_pos hd]
  simp
theorem step_new {xs : List L} {r c : Nat} (h : goes r c = false) (h2 : c ≠ 32) : stepL (xs, r) c = (xs ++ [[c]], grp c) := by
  unfold stepL
  simp [h, h2]
theorem scan_from : ∀ (n : Nat) (cs : L) (xs : List L) (r : Nat), cs.length ≤ n → Closed r cs → (List.foldl stepL (xs, r) cs).1 = xs ++ cutN n cs
  | 0, [], xs, r, _, _ => by simp [cutN]
  | 0, _ :: _, _, _, h, _ => by simp at h
  | n + 1, [], xs, r, _, _ => by simp [cutN]
  | n + 1, c :: cs, xs, r, hn, hc => by
    have g0 : goes r c = false := hc c rfl
    have hn' : cs.length ≤ n := by simp at hn; omega
    unfold cutN
    by_cases hq : c = 39 ∧ (cs.head?.elim false isLet) = true
    · rw [if_pos hq]
      obtain ⟨rfl, h2⟩ := hq
      match cs, h2, hn' with
      | d :: ds, h2, hn' =>
        have hd : isLet d = true := h2
        rw [List.foldl_cons, step_new g0 (by decide), show grp 39 = 39 from rfl, run_quote hd]
        rw [scan_from n _ _ 97 (Nat.le_trans (drop_le _ _) hn') (fun c h => by rw [goes_let]; exact drop_head _ _ c h)]
        simp
    · rw [if_neg hq]
      cases hl : isLet c with
      | true =>
        have h32 : c ≠ 32 := fun e => by subst e; cases hl
        rw [List.foldl_cons, step_new g0 h32, let_grp hl, run_let]
        rw [scan_from n _ _ 97 (Nat.le_trans (drop_le _ _) hn') (fun c h => by rw [goes_let]; exact drop_head _ _ c h)]
        simp
      | false =>
        cases hf : isFig c with
        | true =>
          have h32 : c ≠ 32 := fun e => by subst e; cases hf
          rw [List.foldl_cons, step_new g0 h32, fig_grp hf, run_fig]
          rw [scan_from n _ _ 48 (Nat.le_trans (drop_le _ _) hn') (fun c h => by rw [goes_fig]; exact drop_head _ _ c h)]
          simp
        | false =>
          have hg : grp c = c := by unfold grp; rw [hl, hf]; rfl
          have n97 : c ≠ 97 := fun e => by subst e; cases hl
          have n48 : c ≠ 48 := fun e => by subst e; cases hf
          by_cases h32 : c = 32
          · subst h32
            rw [List.foldl_cons]
            have e : stepL (xs, r) 32 = (xs, 32) := by unfold stepL; simp [g0]; rfl
            rw [e, scan_from n cs xs 32 hn' (fun c _ => goes_other (by decide) (by decide) (by decide) c)]
            simp
          · rw [List.foldl_cons, step_new g0 h32, hg]
            have cl : Closed c cs := fun d hd => by
              by_cases h39 : c = 39
              · subst h39
                rw [goes_quote]
                cases hdl : isLet d with
                | false => rfl
                | true => exact absurd ⟨rfl, by rw [hd]; exact hdl⟩ hq
              · exact goes_other n97 n48 h39 d
            rw [scan_from n cs _ c hn' cl]
            simp [h32]
theorem scan_eq (l : L) : scan l = cutN l.length l := by
  unfold scan
  rw [scan_from l.length l [] 32 (Nat.le_refl _) (fun c _ => goes_other (by decide) (by decide) (by decide) c)]
  rfl
end Ln

set_option Elab.async false
set_option linter.all false
/-! k02: what is rendered is scanned; the tight line is the shortest; which runs are tokens -/
namespace Ln
def kdc (c : Nat) : Nat := if c = 39 then 0 else if isLet c then 1 else if isFig c then 2 else 3
def kd (t : L) : Nat := kdc (t.headD 0)
def jk (a b : Nat) : Bool := (a == 1 && b == 1) || (a == 0 && b == 1) || (a == 2 && b == 2)
def joined (t u : L) : Bool := jk (kd t) (kd u)
inductive Tok : L → Prop
  | word {c : Nat} {cs : L} : isLet c = true → (∀ d ∈ cs, isLet d = true) → Tok (c :: cs)
  | num {c : Nat} {cs : L} : isFig c = true → (∀ d ∈ cs, isFig d = true) → Tok (c :: cs)
  | quoted {c : Nat} {cs : L} : isLet c = true → (∀ d ∈ cs, isLet d = true) → Tok (39 :: c :: cs)
  | sign {c : Nat} : isLet c = false → isFig c = false → c ≠ 39 → c ≠ 32 → Tok [c]
/-- what runs behind a token -/
def lg (t : L) : Nat := if kd t = 0 ∨ kd t = 1 then 97 else if kd t = 2 then 48 else t.headD 0
theorem run_all (p : Nat → Bool) (r : Nat) (hg : ∀ c, p c = true → goes r c = true ∧ grp c = r) : ∀ (cs rest : L) (xs : List L) (t : L), (∀ d ∈ cs, p d = true) → List.foldl stepL (xs ++ [t], r) (cs ++ rest) = List.foldl stepL (xs ++ [t ++ cs], r) rest
  | [], rest, xs, t, _ => by simp
  | c :: cs, rest, xs, t, h => by
    obtain ⟨g1, g2⟩ := hg c (h c List.mem_cons_self)
    rw [List.cons_append, List.foldl_cons]
    have e : stepL (xs ++ [t], r) c = (xs ++ [t ++ [c]], r) := by
      unfold stepL
      rw [if_pos g1, addLast_snoc, g2]
    rw [e, run_all p r hg cs rest xs (t ++ [c]) fun d hd => h d (List.mem_cons_of_mem _ hd)]
    simp
theorem let39 {c : Nat} (h : isLet c = true) : c ≠ 39 := fun e => by subst e; cases h
theorem let32 {c : Nat} (h : isLet c = true) : c ≠ 32 := fun e => by subst e; cases h
theorem fig39 {c : Nat} (h : isFig c = true) : c ≠ 39 := fun e => by subst e; cases h
theorem fig32 {c : Nat} (h : isFig c = true) : c ≠ 32 := fun e => by subst e; cases h
theorem kdc_let {c : Nat} (h : isLet c = true) : kdc c = 1 := by unfold kdc; rw [if_neg (let39 h), if_pos h]
theorem kdc_fig {c : Nat} (h : isFig c = true) : kdc c = 2 := by unfold kdc; rw [if_neg (fig39 h), fig_not_let h, if_pos h]; simp
theorem kdc_other {c : Nat} (h1 : isLet c = false) (h2 : isFig c = false) (h3 : c ≠ 39) : kdc c = 3 := by unfold kdc; rw [if_neg h3, h1, h2]; simp
theorem kdc_one {c : Nat} (h : kdc c = 1) : isLet c = true := by
  unfold kdc at h
  split at h
  · omega
  · split at h
    · assumption
    · split at h <;> omega
theorem kdc_two {c : Nat} (h : kdc c = 2) : isFig c = true := by
  unfold kdc at h
  split at h
  · omega
  · split at h
    · omega
    · split at h
      · assumption
      · omega
theorem fold_tok {t : L} (ht : Tok t) {xs : List L} {r : Nat} (hc : goes r (t.headD 0) = false) (rest : L) : List.foldl stepL (xs, r) (t ++ rest) = List.foldl stepL (xs ++ [t], lg t) rest := by
  cases ht with
  | @word c cs h1 h2 =>
    replace hc : goes r c = false := hc
    have hl : lg (c :: cs) = 97 := by
      unfold lg kd
      rw [show (c :: cs).headD 0 = c from rfl, kdc_let h1]
      rfl
    rw [List.cons_append, List.foldl_cons, step_new hc (let32 h1), let_grp h1, run_all isLet 97 (fun c h => ⟨by rw [goes_let]; exact h, let_grp h⟩) cs rest xs [c] h2, hl]
    rfl
  | @num c cs h1 h2 =>
    replace hc : goes r c = false := hc
    have hl : lg (c :: cs) = 48 := by
      unfold lg kd
      rw [show (c :: cs).headD 0 = c from rfl, kdc_fig h1]
      rfl
    rw [List.cons_append, List.foldl_cons, step_new hc (fig32 h1), fig_grp h1, run_all isFig 48 (fun c h => ⟨by rw [goes_fig]; exact h, fig_grp h⟩) cs rest xs [c] h2, hl]
    rfl
  | @quoted c cs h1 h2 =>
    replace hc : goes r 39 = false := hc
    have hl : lg (39 :: c :: cs) = 97 := rfl
    rw [List.cons_append, List.cons_append, List.foldl_cons, step_new hc (by decide), show grp 39 = 39 from rfl, List.foldl_cons]
    have e : stepL (xs ++ [[39]], 39) c = (xs ++ [[39, c]], 97) := by
      unfold stepL
      rw [if_pos (by rw [goes_quote]; exact h1), addLast_snoc, let_grp h1]
      rfl
    rw [e, run_all isLet 97 (fun c h => ⟨by rw [goes_let]; exact h, let_grp h⟩) cs rest xs [39, c] h2, hl]
    rfl
  | @sign c h1 h2 h3 h4 =>
    replace hc : goes r c = false := hc
    have hl : lg [c] = c := by
      unfold lg kd
      rw [show [c].headD 0 = c from rfl, kdc_other h1 h2 h3]
      rfl
    have hg : grp c = c := by unfold grp; rw [h1, h2]; rfl
    rw [List.cons_append, List.foldl_cons, step_new hc h4, hg, hl]
    rfl
theorem tok_closed {p t : L} (hp : Tok p) (ht : Tok t) (h : joined p t = false) : goes (lg p) (t.headD 0) = false := by
  have key : ∀ c, jk (kd p) (kdc c) = false → goes (lg p) c = false := by
    intro c hj
    cases hp with
    | @word d ds h1 h2 =>
      have e : kd (d :: ds) = 1 := kdc_let h1
      rw [show lg (d :: ds) = 97 by unfold lg; rw [e]; rfl, goes_let]
      rw [e] at hj
      cases hl : isLet c with
      | false => rfl
      | true => rw [kdc_let hl] at hj; cases hj
    | @num d ds h1 h2 =>
      have e : kd (d :: ds) = 2 := kdc_fig h1
      rw [show lg (d :: ds) = 48 by unfold lg; rw [e]; rfl, goes_fig]
      rw [e] at hj
      cases hl : isFig c with
      | false => rfl
      | true => rw [kdc_fig hl] at hj; cases hj
    | @quoted d ds h1 h2 =>
      have e : kd (39 :: d :: ds) = 0 := rfl
      rw [show lg (39 :: d :: ds) = 97 from rfl, goes_let]
      rw [e] at hj
      cases hl : isLet c with
      | false => rfl
      | true => rw [kdc_let hl] at hj; cases hj
    | @sign d h1 h2 h3 h4 =>
      have e : kd [d] = 3 := kdc_other h1 h2 h3
      rw [show lg [d] = d by unfold lg; rw [e]; rfl]
      exact goes_other (fun e => by subst e; cases h1) (fun e => by subst e; cases h2) h3 c
  exact key _ h
theorem goes_blank (r : Nat) : goes r 32 = false := by
  unfold goes
  have : grp 32 = 32 := rfl
  rw [this]
  simp
theorem fold_blank : ∀ (g : Nat) (xs : List L) (r : Nat) (rest : L), List.foldl stepL (xs, r) (List.replicate g 32 ++ rest) = List.foldl stepL (xs, if g = 0 then r else 32) rest
  | 0, xs, r, rest => by simp
  | g + 1, xs, r, rest => by
    rw [List.replicate_succ, List.cons_append, List.foldl_cons]
    have e : stepL (xs, r) 32 = (xs, 32) := by unfold stepL; simp [goes_blank]; rfl
    rw [e, fold_blank g xs 32 rest]
    simp
inductive Rend : Option L → List L → L → Prop
  | nil {p : Option L} (g : Nat) : Rend p [] (List.replicate g 32)
  | cons {p : Option L} {t : L} {ts : List L} {rest : L} (g : Nat) : (∀ q, p = some q → joined q t = true → 0 < g) → Rend (some t) ts rest → Rend p (t :: ts) (List.replicate g 32 ++ (t ++ rest))
theorem rend_from {p : Option L} {ts : List L} {line : L} (h : Rend p ts line) : ∀ {xs : List L} {r : Nat}, (∀ t ∈ ts, Tok t) → (p = none → r = 32) → (∀ q, p = some q → Tok q ∧ r = lg q) → (List.foldl stepL (xs, r) line).1 = xs ++ ts := by
  induction h with
  | nil g =>
    intro xs r _ _ _
    have := fold_blank g xs r []
    rw [List.append_nil] at this
    rw [this]
    simp
  | @cons p t ts rest g hg hr ih =>
    intro xs r ht h0 h1
    have tt := ht t List.mem_cons_self
    have cl : goes (if g = 0 then r else 32) (t.headD 0) = false := by
      by_cases e : g = 0
      · rw [if_pos e]
        cases p with
        | none => rw [h0 rfl]; exact goes_other (by decide) (by decide) (by decide) _
        | some q =>
          obtain ⟨tq, rfl⟩ := h1 q rfl
          refine tok_closed tq tt ?_
          cases hj : joined q t with
          | false => rfl
          | true => exact absurd (hg q rfl hj) (by omega)
      · rw [if_neg e]
        exact goes_other (by decide) (by decide) (by decide) _
    rw [fold_blank, fold_tok tt cl, ih (fun u hu => ht u (List.mem_cons_of_mem _ hu)) (fun z => nomatch z) (fun q e => by cases e; exact ⟨tt, rfl⟩)]
    simp
theorem rend_scan {ts : List L} {line : L} (h : Rend none ts line) (ht : ∀ t ∈ ts, Tok t) : scan line = ts := by
  unfold scan
  rw [rend_from h ht (fun _ => rfl) (fun q e => nomatch e)]
  rfl
/-! ### the tight line -/
def tight : Option L → List L → L
  | _, [] => []
  | p, t :: ts => (if p.elim false (fun q => joined q t) = true then [32] else []) ++ (t ++ tight (some t) ts)
theorem tight_any (p : Option L) : ∀ ts, (tight p ts).length ≤ (tight none ts).length + 1
  | [] => by simp [tight]
  | t :: ts => by
    simp only [tight, List.length_append]
    have h1 : (if p.elim false (fun q => joined q t) = true then [32] else []).length ≤ 1 := by split <;> simp
    omega
theorem tight_free {p : Option L} {t : L} {ts : List L} (h : p.elim false (fun q => joined q t) = false) : (tight p (t :: ts)).length = t.length + (tight (some t) ts).length := by
  simp [tight, h]
theorem take_drop (p : Nat → Bool) (cs : L) : (cs.takeWhile p).length + (cs.dropWhile p).length = cs.length := by
  rw [← List.length_append, List.takeWhile_append_dropWhile]
/-- the head of what comes doesn't join with p -/
def Free (p : Option L) (s : L) : Prop := ∀ q c, p = some q → s.head? = some c → jk (kd q) (kdc c) = false
theorem jk_one {a : Nat} (h : a = 1 ∨ a = 0) {b : Nat} (hb : b ≠ 1) : jk a b = false := by
  rcases h with rfl | rfl <;> simp [jk, hb]
theorem short : ∀ (n : Nat) (s : L) (p : Option L), s.length ≤ n → Free p s → (tight p (cutN n s)).length ≤ s.length
  | 0, [], p, _, _ => by simp [cutN, tight]
  | 0, _ :: _, _, h, _ => by simp at h
  | n + 1, [], p, _, _ => by simp [cutN, tight]
  | n + 1, c :: cs, p, hn, hf => by
    have hn' : cs.length ≤ n := by simp at hn; omega
    have free : ∀ t : L, t.headD 0 = c → p.elim false (fun q => joined q t) = false := by
      intro t ht
      cases p with
      | none => rfl
      | some q =>
        show jk (kd q) (kdc (t.headD 0)) = false
        rw [ht]
        exact hf q c rfl rfl
    have letFree : ∀ (t : L), kd t = 1 ∨ kd t = 0 → Free (some t) (cs.dropWhile isLet) := by
      intro t ht q d hq hd
      cases hq
      refine jk_one ht fun e => ?_
      have := drop_head isLet cs d hd
      rw [kdc_one e] at this
      cases this
    unfold cutN
    by_cases hq : c = 39 ∧ (cs.head?.elim false isLet) = true
    · rw [if_pos hq, tight_free (free _ rfl)]
      obtain ⟨rfl, _⟩ := hq
      have := short n (cs.dropWhile isLet) (some (39 :: cs.takeWhile isLet)) (Nat.le_trans (drop_le _ _) hn') (letFree _ (.inr rfl))
      have := take_drop isLet cs
      simp only [List.length_cons]
      omega
    · rw [if_neg hq]
      cases hl : isLet c with
      | true =>
        simp only [↓reduceIte]
        rw [tight_free (free _ rfl)]
        have := short n (cs.dropWhile isLet) (some (c :: cs.takeWhile isLet)) (Nat.le_trans (drop_le _ _) hn') (letFree _ (.inl (kdc_let hl)))
        have := take_drop isLet cs
        simp only [List.length_cons]
        omega
      | false =>
        cases hfg : isFig c with
        | true =>
          simp only [Bool.false_eq_true, ↓reduceIte]
          rw [tight_free (free _ rfl)]
          have := short n (cs.dropWhile isFig) (some (c :: cs.takeWhile isFig)) (Nat.le_trans (drop_le _ _) hn') (by
            intro q d hq2 hd
            cases hq2
            have e2 : kd (c :: cs.takeWhile isFig) = 2 := kdc_fig hfg
            rw [e2]
            have h3 := drop_head isFig cs d hd
            have h4 : kdc d ≠ 2 := fun e => by rw [kdc_two e] at h3; cases h3
            simp [jk, h4])
          have := take_drop isFig cs
          simp only [List.length_cons]
          omega
        | false =>
          simp only [Bool.false_eq_true, ↓reduceIte]
          by_cases h32 : c = 32
          · rw [if_pos h32]
            have h1 := short n cs none hn' (fun q c e => nomatch e)
            have h2 := tight_any p (cutN n cs)
            simp only [List.length_cons]
            omega
          · rw [if_neg h32, tight_free (free _ rfl)]
            have := short n cs (some [c]) hn' (by
              intro q d hq2 hd
              cases hq2
              by_cases h39 : c = 39
              · subst h39
                refine jk_one (.inr rfl) fun e => hq ⟨rfl, ?_⟩
                rw [hd]
                exact kdc_one e
              · have e3 : kd [c] = 3 := kdc_other hl hfg h39
                rw [e3]
                rfl)
            simp only [List.length_cons, List.length_nil]
            omega
theorem tight_short (s : L) : (tight none (scan s)).length ≤ s.length := by
  rw [scan_eq]
  exact short _ _ _ (Nat.le_refl _) (fun q c e => nomatch e)
/-! ### which runs are tokens -/
def signs : L := [43, 45, 42, 47, 60, 62, 61, 46, 44, 59, 58, 33, 63, 38, 124, 64, 94, 126, 91, 93, 123, 125]
def isRun (p : Nat → Bool) (t : L) : Bool := decide (1 ≤ t.length) && decide (t.length ≤ 8) && t.all p
def isWord (t : L) : Bool := isRun isLet t
def isSign (t : L) : Bool := decide (t.length = 1) && t.all (fun c => signs.contains c)
def isNum (t : L) : Bool := isRun isFig t && (t == [48] || !(t.headD 0 == 48))
def isQuoted (t : L) : Bool := (t.take 1 == [39]) && isWord (t.drop 1)
def isTok (t : L) : Bool := t == [40] || t == [41] || isWord t || isSign t || isNum t || isQuoted t
def good (t : L) : Bool :=
  if isLet (t.headD 0) || t.headD 0 == 39 then decide (0 < (t.filter fun c => c != 39).length) && decide ((t.filter fun c => c != 39).length < 9)
  else if isFig (t.headD 0) then t == [48] || (!(t.headD 0 == 48) && decide (t.length < 9))
  else t.length == 1 && (signs ++ [40, 41]).contains (t.headD 0)
inductive Raw : L → Prop
  | word {c : Nat} {cs : L} : isLet c = true → (∀ d ∈ cs, isLet d = true) → Raw (c :: cs)
  | num {c : Nat} {cs : L} : isFig c = true → (∀ d ∈ cs, isFig d = true) → Raw (c :: cs)
  | quoted {c : Nat} {cs : L} : isLet c = true → (∀ d ∈ cs, isLet d = true) → Raw (39 :: c :: cs)
  | sign {c : Nat} : isLet c = false → isFig c = false → c ≠ 32 → Raw [c]
theorem mem_take (p : Nat → Bool) : ∀ (cs : L), ∀ d ∈ cs.takeWhile p, p d = true
  | [], d, h => by simp at h
  | c :: cs, d, h => by
    rw [List.takeWhile_cons] at h
    split at h
    · rcases List.mem_cons.mp h with rfl | h
      · assumption
      · exact mem_take p cs d h
    · simp at h
theorem cut_raw : ∀ (n : Nat) (s : L), ∀ t ∈ cutN n s, Raw t
  | 0, s, t, h => by simp [cutN] at h
  | n + 1, [], t, h => by simp [cutN] at h
  | n + 1, c :: cs, t, h => by
    unfold cutN at h
    split at h
    · rename_i hq
      obtain ⟨rfl, h2⟩ := hq
      rcases List.mem_cons.mp h with rfl | h
      · match cs, h2 with
        | d :: ds, h2 =>
          have hd : isLet d = true := h2
          rw [List.takeWhile_cons, if_pos hd]
          exact .quoted hd (mem_take _ _)
      · exact cut_raw n _ t h
    · split at h
      · rename_i hl
        rcases List.mem_cons.mp h with rfl | h
        · exact .word hl (mem_take _ _)
        · exact cut_raw n _ t h
      · rename_i hl
        split at h
        · rename_i hf
          rcases List.mem_cons.mp h with rfl | h
          · exact .num hf (mem_take _ _)
          · exact cut_raw n _ t h
        · rename_i hf
          split at h
          · exact cut_raw n _ t h
          · rename_i h32
            rcases List.mem_cons.mp h with rfl | h
            · exact .sign (by simpa using hl) (by simpa using hf) h32
            · exact cut_raw n _ t h
theorem let_sign {c : Nat} (h : isLet c = true) : signs.contains c = false := by
  unfold isLet at h
  simp at h
  simp [signs]
  omega
theorem fig_sign {c : Nat} (h : isFig c = true) : signs.contains c = false := by
  unfold isFig at h
  simp at h
  simp [signs]
  omega
theorem filter_let : ∀ {cs : L}, (∀ d ∈ cs, isLet d = true) → (cs.filter fun c => c != 39) = cs
  | cs, h => List.filter_eq_self.mpr fun d hd => by simpa using let39 (h d hd)
theorem let_not40 {c : Nat} (h : isLet c = true) : c ≠ 40 ∧ c ≠ 41 ∧ c ≠ 48 := by
  unfold isLet at h
  simp at h
  omega
theorem fig_not40 {c : Nat} (h : isFig c = true) : c ≠ 40 ∧ c ≠ 41 := by
  unfold isFig at h
  simp at h
  omega
theorem good_tok {t : L} (h : Raw t) : good t = isTok t := by
  cases h with
  | @word c cs h1 h2 =>
    have n39 := let39 h1
    obtain ⟨n40, n41, _⟩ := let_not40 h1
    have all : (c :: cs).all isLet = true := List.all_eq_true.mpr fun d hd => by rcases List.mem_cons.mp hd with rfl | hd; exact h1; exact h2 d hd
    have nf : isFig c = false := by
      cases e : isFig c with
      | false => rfl
      | true => rw [fig_not_let e] at h1; cases h1
    have f : ((c :: cs).filter fun c => c != 39) = c :: cs := filter_let fun d hd => by rcases List.mem_cons.mp hd with rfl | hd; exact h1; exact h2 d hd
    unfold good isTok isWord isSign isNum isQuoted isRun
    rw [f, all]
    simp only [List.headD_cons, h1, Bool.true_or, ↓reduceIte, List.all_cons, nf, let_sign h1, List.take_succ_cons, List.take_zero]
    have e1 : (c :: cs == [40]) = false := by simp [n40]
    have e2 : (c :: cs == [41]) = false := by simp [n41]
    have e3 : ([c] == [39]) = false := by simp [n39]
    rw [e1, e2, e3]
    simp
    omega
  | @num c cs h1 h2 =>
    have n39 := fig39 h1
    obtain ⟨n40, n41⟩ := fig_not40 h1
    have all : (c :: cs).all isFig = true := List.all_eq_true.mpr fun d hd => by rcases List.mem_cons.mp hd with rfl | hd; exact h1; exact h2 d hd
    have nl := fig_not_let h1
    unfold good isTok isWord isSign isNum isQuoted isRun
    rw [all]
    have e1 : (c :: cs == [40]) = false := by simp [n40]
    have e2 : (c :: cs == [41]) = false := by simp [n41]
    have e3 : ([c] == [39]) = false := by simp [n39]
    have e4 : (c == 39) = false := by simp [n39]
    simp only [List.headD_cons, h1, nl, Bool.false_or, e4, Bool.false_eq_true, ↓reduceIte, List.all_cons, fig_sign h1, List.take_succ_cons, List.take_zero, e1, e2, e3, Bool.false_and, Bool.and_false, Bool.or_false]
    by_cases z : c = 48
    · subst z
      cases cs with
      | nil => rfl
      | cons d ds => simp
    · have e5 : (c == 48) = false := by simp [z]
      have e6 : (c :: cs == [48]) = false := by simp [z]
      rw [e5, e6]
      simp
      omega
  | @quoted c cs h1 h2 =>
    have all : (c :: cs).all isLet = true := List.all_eq_true.mpr fun d hd => by rcases List.mem_cons.mp hd with rfl | hd; exact h1; exact h2 d hd
    have f : ((c :: cs).filter fun c => c != 39) = c :: cs := filter_let fun d hd => by rcases List.mem_cons.mp hd with rfl | hd; exact h1; exact h2 d hd
    have f2 : ((39 :: c :: cs).filter fun c => c != 39) = c :: cs := by rw [List.filter_cons]; simpa using f
    unfold good isTok isWord isSign isNum isQuoted isRun
    rw [f2]
    simp only [List.drop_succ_cons, List.drop_zero, all, List.headD_cons, beq_self_eq_true, Bool.or_true, ↓reduceIte, List.all_cons, show isLet 39 = false from rfl, show isFig 39 = false from rfl, Bool.false_and, Bool.and_false, Bool.or_false, List.take_succ_cons, List.take_zero, Bool.true_and, Bool.and_true]
    have e1 : (39 :: c :: cs == [40]) = false := by simp
    have e2 : (39 :: c :: cs == [41]) = false := by simp
    have e3 : List.contains signs 39 = false := by decide
    rw [e1, e2, e3]
    unfold isWord isRun
    rw [all]
    simp
    omega
  | @sign c h1 h2 h3 =>
    by_cases h39 : c = 39
    · subst h39
      decide
    · have e4 : (c == 39) = false := by simp [h39]
      unfold good isTok isWord isSign isNum isQuoted isRun
      simp only [List.headD_cons, h1, h2, e4, Bool.or_self, Bool.false_eq_true, ↓reduceIte, List.all_cons, Bool.false_and, Bool.and_false, Bool.or_false, List.take_succ_cons, List.take_zero]
      simp [h39, signs]
      by_cases a : c = 40
      · subst a; decide
      · by_cases b : c = 41
        · subst b; decide
        · have e5 : (c == 40) = false := by simp [a]
          have e6 : (c == 41) = false := by simp [b]
          rw [e5, e6, e4]
          simp [a, b]
/-- what a line is told as -/
def told (l : L) : Option (List L) := if (scan l).all isTok then some (scan l) else none
theorem told_good (l : L) : told l = if (scan l).all good then some (scan l) else none := by
  unfold told
  have : (scan l).all good = (scan l).all isTok := by
    rw [scan_eq]
    have h := cut_raw l.length l
    generalize cutN l.length l = ts at h
    induction ts with
    | nil => rfl
    | cons t ts ih => rw [List.all_cons, List.all_cons, good_tok (h t List.mem_cons_self), ih fun u hu => h u (List.mem_cons_of_mem _ hu)]
  rw [this]
end Ln

set_option Elab.async false
set_option linter.all false
/-! k02: steps of the cut, ends of tokens, the law's lines -/
namespace Ln
theorem scan_cut {n : Nat} {l : L} (h : l.length ≤ n) : scan l = cutN n l := by
  unfold scan
  rw [scan_from n l [] 32 h (fun c _ => goes_other (by decide) (by decide) (by decide) c)]
  rfl
theorem tw_take (p : Nat → Bool) (cs : L) : cs.take (cs.takeWhile p).length = cs.takeWhile p := by
  have h : cs.takeWhile p ++ cs.dropWhile p = cs := List.takeWhile_append_dropWhile
  have := congrArg (List.take (cs.takeWhile p).length) h
  rw [List.take_left] at this
  exact this.symm
theorem tw_drop (p : Nat → Bool) (cs : L) : cs.drop (cs.takeWhile p).length = cs.dropWhile p := by
  have h : cs.takeWhile p ++ cs.dropWhile p = cs := List.takeWhile_append_dropWhile
  have := congrArg (List.drop (cs.takeWhile p).length) h
  rw [List.drop_left] at this
  exact this.symm
/-- how many signs run together behind the first one -/
def more (c : Nat) (cs : L) : Nat :=
  if c = 39 ∧ (cs.head?.elim false isLet) = true then (cs.takeWhile isLet).length else if isLet c then (cs.takeWhile isLet).length else if isFig c then (cs.takeWhile isFig).length else 0
theorem scan_step (c : Nat) (cs : L) : scan (c :: cs) = (if c = 32 then [] else [(c :: cs).take (more c cs + 1)]) ++ scan ((c :: cs).drop (more c cs + 1)) := by
  rw [scan_cut (n := cs.length + 1) (by simp)]
  unfold cutN more
  by_cases hq : c = 39 ∧ (cs.head?.elim false isLet) = true
  · rw [if_pos hq, if_pos hq]
    obtain ⟨rfl, _⟩ := hq
    rw [if_neg (by decide), List.take_succ_cons, List.drop_succ_cons, tw_take, tw_drop, scan_cut (drop_le _ _)]
    rfl
  · rw [if_neg hq, if_neg hq]
    cases hl : isLet c with
    | true =>
      simp only [↓reduceIte]
      rw [if_neg (let32 hl), List.take_succ_cons, List.drop_succ_cons, tw_take, tw_drop, scan_cut (drop_le _ _)]
      rfl
    | false =>
      cases hf : isFig c with
      | true =>
        simp only [Bool.false_eq_true, ↓reduceIte]
        rw [if_neg (fig32 hf), List.take_succ_cons, List.drop_succ_cons, tw_take, tw_drop, scan_cut (drop_le _ _)]
        rfl
      | false =>
        simp only [Bool.false_eq_true, ↓reduceIte]
        by_cases h : c = 32
        · rw [if_pos h, if_pos h, List.drop_succ_cons, List.drop_zero, scan_cut (Nat.le_refl _)]
          rfl
        · rw [if_neg h, if_neg h, List.take_succ_cons, List.drop_succ_cons, List.drop_zero, List.take_zero, scan_cut (Nat.le_refl _)]
          rfl
theorem more_le (c : Nat) (cs : L) : more c cs ≤ cs.length := by
  have h : ∀ p : Nat → Bool, (cs.takeWhile p).length ≤ cs.length := fun p => (List.takeWhile_sublist p).length_le
  unfold more
  split
  · exact h _
  · split
    · exact h _
    · split
      · exact h _
      · exact Nat.zero_le _
/-- the first k of a run satisfy p; the next one doesn't -/
theorem tw_lt {p : Nat → Bool} : ∀ {cs : L} {k : Nat}, k < (cs.takeWhile p).length → ∃ c, cs[k]? = some c ∧ p c = true
  | [], k, h => by simp at h
  | d :: ds, k, h => by
    rw [List.takeWhile_cons] at h
    split at h
    · rename_i hd
      cases k with
      | zero => exact ⟨d, rfl, hd⟩
      | succ k =>
        obtain ⟨c, h1, h2⟩ := tw_lt (cs := ds) (k := k) (by simpa using h)
        exact ⟨c, by simpa using h1, h2⟩
    · simp at h
theorem tw_end {p : Nat → Bool} : ∀ {cs : L} {c : Nat}, cs[(cs.takeWhile p).length]? = some c → p c = false
  | [], c, h => by simp at h
  | d :: ds, c, h => by
    rw [List.takeWhile_cons] at h
    split at h
    · exact tw_end (cs := ds) (by simpa using h)
    · rename_i hd
      simp at h
      subst h
      simpa using hd
/-! ### tokens -/
theorem run_all' {p : Nat → Bool} {t : L} (h : isRun p t = true) : 1 ≤ t.length ∧ t.length ≤ 8 ∧ ∀ d ∈ t, p d = true := by
  unfold isRun at h
  simp only [Bool.and_eq_true, decide_eq_true_eq, List.all_eq_true] at h
  exact ⟨h.1.1, h.1.2, h.2⟩
theorem tok_of {t : L} (h : isTok t = true) : Tok t ∧ t.length ≤ 9 := by
  unfold isTok at h
  simp only [Bool.or_eq_true] at h
  rcases h with ((((h | h) | h) | h) | h) | h
  · have : t = [40] := by simpa using h
    subst this
    exact ⟨.sign rfl rfl (by decide) (by decide), by decide⟩
  · have : t = [41] := by simpa using h
    subst this
    exact ⟨.sign rfl rfl (by decide) (by decide), by decide⟩
  · obtain ⟨h1, h2, h3⟩ := run_all' h
    match t, h1, h2, h3 with
    | c :: cs, _, h2, h3 => exact ⟨.word (h3 c List.mem_cons_self) fun d hd => h3 d (List.mem_cons_of_mem _ hd), by omega⟩
  · unfold isSign at h
    simp only [Bool.and_eq_true, decide_eq_true_eq] at h
    match t, h with
    | [c], ⟨_, h⟩ =>
      have hc : signs.contains c = true := by simpa using h
      refine ⟨.sign ?_ ?_ ?_ ?_, by simp⟩
      · cases e : isLet c with
        | false => rfl
        | true => rw [let_sign e] at hc; cases hc
      · cases e : isFig c with
        | false => rfl
        | true => rw [fig_sign e] at hc; cases hc
      · intro e; subst e; exact absurd hc (by decide)
      · intro e; subst e; exact absurd hc (by decide)
  · unfold isNum at h
    simp only [Bool.and_eq_true] at h
    obtain ⟨h1, h2, h3⟩ := run_all' h.1
    match t, h1, h2, h3 with
    | c :: cs, _, h2, h3 => exact ⟨.num (h3 c List.mem_cons_self) fun d hd => h3 d (List.mem_cons_of_mem _ hd), by omega⟩
  · unfold isQuoted isWord at h
    simp only [Bool.and_eq_true] at h
    obtain ⟨h0, h⟩ := h
    obtain ⟨h1, h2, h3⟩ := run_all' h
    match t, h0, h1, h2, h3 with
    | q :: c :: cs, h0, _, h2, h3 =>
      have : q = 39 := by simpa using h0
      subst this
      simp at h2
      exact ⟨.quoted (h3 c (by simp)) fun d hd => h3 d (by simp [hd]), by simp; omega⟩
    | [q], h0, h1, _, _ => simp at h1
    | [], h0, _, _, _ => simp at h0
theorem word_kd {t : L} (h : isTok t = true) : isWord t = (kd t == 1) ∧ isQuoted t = (kd t == 0) ∧ isNum t = (kd t == 2) := by
  unfold isTok at h
  simp only [Bool.or_eq_true] at h
  have nw : ∀ {c : Nat} {cs : L}, isLet c = false → isWord (c :: cs) = false := fun {c cs} e => by
    unfold isWord isRun
    rw [List.all_cons, e]
    simp
  have nn : ∀ {c : Nat} {cs : L}, isFig c = false → isNum (c :: cs) = false := fun {c cs} e => by
    unfold isNum isRun
    rw [List.all_cons, e]
    simp
  have nq : ∀ {c : Nat} {cs : L}, c ≠ 39 → isQuoted (c :: cs) = false := fun {c cs} e => by
    unfold isQuoted
    simp [e]
  rcases h with ((((h | h) | h) | h) | h) | h
  · have : t = [40] := by simpa using h
    subst this
    decide
  · have : t = [41] := by simpa using h
    subst this
    decide
  · obtain ⟨h1, h2, h3⟩ := run_all' h
    match t, h1, h, h3 with
    | c :: cs, _, h, h3 =>
      have hc := h3 c List.mem_cons_self
      have nf : isFig c = false := by
        cases e : isFig c with
        | false => rfl
        | true => rw [fig_not_let e] at hc; cases hc
      rw [h, nq (let39 hc), nn nf, show kd (c :: cs) = 1 from kdc_let hc]
      decide
  · unfold isSign at h
    simp only [Bool.and_eq_true, decide_eq_true_eq] at h
    match t, h with
    | [c], ⟨_, h⟩ =>
      have hc : signs.contains c = true := by simpa using h
      have nl : isLet c = false := by
        cases e : isLet c with
        | false => rfl
        | true => rw [let_sign e] at hc; cases hc
      have nf : isFig c = false := by
        cases e : isFig c with
        | false => rfl
        | true => rw [fig_sign e] at hc; cases hc
      have n39 : c ≠ 39 := by intro e; subst e; exact absurd hc (by decide)
      rw [nw nl, nq n39, nn nf, show kd [c] = 3 from kdc_other nl nf n39]
      decide
  · have hn := h
    unfold isNum at h
    simp only [Bool.and_eq_true] at h
    obtain ⟨h1, h2, h3⟩ := run_all' h.1
    match t, h1, hn, h3 with
    | c :: cs, _, hn, h3 =>
      have hc := h3 c List.mem_cons_self
      rw [hn, nw (fig_not_let hc), nq (fig39 hc), show kd (c :: cs) = 2 from kdc_fig hc]
      decide
  · have hn := h
    unfold isQuoted at h
    simp only [Bool.and_eq_true] at h
    match t, h.1, hn with
    | q :: cs, h0, hn =>
      have : q = 39 := by simpa using h0
      subst this
      rw [hn, nw rfl, nn rfl, show kd (39 :: cs) = 0 from rfl]
      decide
    | [], h0, _ => simp at h0
/-- the program's word on neighbours -/
def together (t u : L) : Bool := if isWord u then isWord t || isQuoted t else isNum t && isNum u
theorem together_joined {t u : L} (ht : isTok t = true) (hu : isTok u = true) : together t u = joined t u := by
  obtain ⟨a, b, c⟩ := word_kd ht
  obtain ⟨d, e, f⟩ := word_kd hu
  unfold together joined jk
  rw [a, b, c, d, f]
  cases h1 : (kd u == 1) with
  | true =>
    have : kd u = 1 := by simpa using h1
    rw [this]
    simp [Bool.or_comm]
  | false => simp
/-! ### the law's line -/
def need (ts : List L) (i : Nat) : Bool := decide (0 < i) && joined (ts.getD (i - 1) []) (ts.getD i [])
def lineTo (ts : List L) (g : Nat → Nat) : Nat → L
  | 0 => []
  | i + 1 => lineTo ts g i ++ (List.replicate (g i + (if need ts i then 1 else 0)) 32 ++ ts.getD i [])
def lawLine (ts : List L) (g : Nat → Nat) : L := lineTo ts g ts.length ++ List.replicate (g ts.length) 32
/-- the rest of the line behind n - m tokens -/
def tailAt (ts : List L) (g : Nat → Nat) : Nat → L
  | 0 => List.replicate (g ts.length) 32
  | m + 1 => List.replicate (g (ts.length - (m + 1)) + (if need ts (ts.length - (m + 1)) then 1 else 0)) 32 ++ (ts.getD (ts.length - (m + 1)) [] ++ tailAt ts g m)
theorem line_tail (ts : List L) (g : Nat → Nat) : ∀ m, m ≤ ts.length → lineTo ts g (ts.length - m) ++ tailAt ts g m = lawLine ts g
  | 0, _ => rfl
  | m + 1, h => by
    have ih := line_tail ts g m (by omega)
    have e : ts.length - m = (ts.length - (m + 1)) + 1 := by omega
    rw [e] at ih
    rw [← ih]
    simp [lineTo, tailAt]
def prev (ts : List L) (i : Nat) : Option L := if i = 0 then none else some (ts.getD (i - 1) [])
theorem drop_cons {ts : List L} {i : Nat} (h : i < ts.length) : ts.drop i = ts.getD i [] :: ts.drop (i + 1) := by
  rw [List.drop_eq_getElem_cons h, List.getD_eq_getElem?_getD, List.getElem?_eq_getElem h]
  rfl
theorem tail_rend (ts : List L) (g : Nat → Nat) : ∀ m, m ≤ ts.length → Rend (prev ts (ts.length - m)) (ts.drop (ts.length - m)) (tailAt ts g m)
  | 0, _ => by
    rw [Nat.sub_zero, List.drop_length]
    exact .nil _
  | m + 1, h => by
    have hi : ts.length - (m + 1) < ts.length := by omega
    have ih := tail_rend ts g m (by omega)
    have e : ts.length - m = (ts.length - (m + 1)) + 1 := by omega
    rw [e] at ih
    rw [drop_cons hi]
    refine .cons _ (fun q hq hj => ?_) ?_
    · unfold prev at hq
      split at hq
      · cases hq
      · rename_i h0
        cases hq
        have : need ts (ts.length - (m + 1)) = true := by
          unfold need
          rw [hj, decide_eq_true (by omega)]
          rfl
        rw [this]
        simp
    · have : prev ts (ts.length - (m + 1) + 1) = some (ts.getD (ts.length - (m + 1)) []) := by
        unfold prev
        rw [if_neg (by omega)]
        rfl
      rw [this] at ih
      exact ih
theorem line_scan {ts : List L} (g : Nat → Nat) (ht : ∀ t ∈ ts, Tok t) : scan (lawLine ts g) = ts := by
  have h := tail_rend ts g ts.length (Nat.le_refl _)
  have e := line_tail ts g ts.length (Nat.le_refl _)
  rw [Nat.sub_self] at h e
  have e0 : lineTo ts g 0 = [] := rfl
  rw [e0, List.nil_append] at e
  rw [e] at h
  exact rend_scan h ht
theorem tail_tight (ts : List L) : ∀ m, m ≤ ts.length → tailAt ts (fun _ => 0) m = tight (prev ts (ts.length - m)) (ts.drop (ts.length - m))
  | 0, _ => by
    rw [Nat.sub_zero, List.drop_length]
    simp [tailAt, tight]
  | m + 1, h => by
    have hi : ts.length - (m + 1) < ts.length := by omega
    have ih := tail_tight ts m (by omega)
    have e : ts.length - m = (ts.length - (m + 1)) + 1 := by omega
    rw [e] at ih
    rw [drop_cons hi]
    unfold tailAt tight
    rw [ih]
    have : prev ts (ts.length - (m + 1) + 1) = some (ts.getD (ts.length - (m + 1)) []) := by
      unfold prev
      rw [if_neg (by omega)]
      rfl
    rw [this]
    congr 1
    unfold prev need
    by_cases h0 : ts.length - (m + 1) = 0
    · rw [if_pos h0, decide_eq_false (by omega)]
      simp
    · rw [if_neg h0, decide_eq_true (by omega)]
      simp only [Bool.true_and, Nat.zero_add, Option.elim]
      by_cases hj : joined (ts.getD (ts.length - (m + 1) - 1) []) (ts.getD (ts.length - (m + 1)) []) = true
      · rw [if_pos hj]
        exact (if_pos hj).symm
      · rw [if_neg hj]
        exact (if_neg hj).symm
theorem line_tight (ts : List L) : lawLine ts (fun _ => 0) = tight none ts := by
  have h := tail_tight ts ts.length (Nat.le_refl _)
  have e := line_tail ts (fun _ => 0) ts.length (Nat.le_refl _)
  rw [Nat.sub_self] at h e
  have e0 : lineTo ts (fun _ => 0) 0 = [] := rfl
  rw [e0, List.nil_append] at e
  rw [← e, h]
  rfl
/-- what is shorter than the tight line is not scanned to its text -/
theorem shorter_not {ts : List L} {s : L} (h : s.length < (tight none ts).length) : scan s ≠ ts := fun e => by
  have := tight_short s
  rw [e] at this
  omega
/-! ### one blank between -/
def jn : List L → L
  | [] => []
  | [t] => t
  | t :: u :: r => t ++ (32 :: jn (u :: r))
theorem jn_rend : ∀ (ts : List L) (t : L), Rend none (t :: ts) (jn (t :: ts)) ∧ ∀ q, Rend (some q) (t :: ts) (32 :: jn (t :: ts))
  | [], t => by
    have base : ∀ p, Rend p [] (List.replicate 0 32) := fun p => .nil 0
    refine ⟨?_, fun q => ?_⟩
    · have := Rend.cons (p := none) (t := t) (ts := []) 0 (fun q e => nomatch e) (base _)
      simpa [jn] using this
    · have := Rend.cons (p := some q) (t := t) (ts := []) 1 (fun _ _ _ => by omega) (base _)
      simpa [jn] using this
  | u :: r, t => by
    obtain ⟨_, ih⟩ := jn_rend r u
    refine ⟨?_, fun q => ?_⟩
    · have := Rend.cons (p := none) (t := t) 0 (fun q e => nomatch e) (ih t)
      simpa [jn] using this
    · have := Rend.cons (p := some q) (t := t) 1 (fun _ _ _ => by omega) (ih t)
      simpa [jn] using this
theorem jn_scan {ts : List L} (ht : ∀ t ∈ ts, Tok t) : scan (jn ts) = ts := by
  cases ts with
  | nil => rfl
  | cons t ts => exact rend_scan (jn_rend ts t).1 ht
end Ln

set_option Elab.async false
set_option linter.all false
set_option maxRecDepth 100000
set_option maxHeartbeats 4000000
/-! k02: list(text), text * n, own errors raised and read -/
namespace EL
open PySem PySem.Spec PyProof.Rows L2
open PySem.EV (ErrC ErrI Hand OwnMade)
/-! ### list(text) -/
def signsOf (x : Str) : List V := x.cps.toList.map fun c => V.str ⟨#[c]⟩
def rListS : List V → Hp → VK → Prop := fun xs H Q => ∃ x, xs = [.str x] ∧ x.length ≤ sizeLine ∧ ∀ p, H p = none → Q (.ref p) (upd H p (.lst (signsOf x)))
theorem call_listS {X : Cx} (hc : X.calm = true) : CallR X (.type "list") rListS := by
  intro pins s σ H xs us Q I r h
  obtain ⟨x, rfl, hz, q⟩ := h
  obtain ⟨u, rfl, t, rfl⟩ := vals1 r
  have hz' : x.cps.size ≤ sizeLine := hz
  refine call_list_str (hn := hz') (I.ok.hd hc) x t fun h' tk acc c' hk e hi => ?_
  refine ⟨.ref s.heap.objs.size, _, I.laid (t' := tk) hk (Nat.le_refl _) (show ObjOk X.prog X.w _ h' _ (.lst (signsOf x)) from ⟨?_, acc.toList, c', ?_, ?_⟩), rfl, q _ (I.hok.fresh (Nat.le_refl _))⟩
  · show (x.cps.toList.map _).length ≤ _
    rw [List.length_map, Array.length_toList]
    exact hz'
  · refine vals_of_idx _ _ ?_ fun j u hj => ?_
    · show _ = (x.cps.toList.map _).length
      rw [List.length_map, Array.length_toList, Array.length_toList]
      exact hi.1
    · obtain ⟨c, t', hcj, rfl⟩ := hi.2 j u (by rw [← Array.getElem?_toList]; exact hj)
      refine ⟨.str ⟨#[c]⟩, ?_, ⟨_, rfl⟩⟩
      show (x.cps.toList.map _)[j]? = _
      rw [List.getElem?_map, Array.getElem?_toList, hcj]
      rfl
  · rw [Array.toArray_toList]
    exact e
/-! ### text * n -/
theorem foldl_copies (a : Array Nat) : ∀ (n : Nat) (b : Array Nat), ((List.replicate n a).foldl (· ++ ·) b).toList = b.toList ++ (List.replicate n a.toList).flatten
  | 0, b => by simp
  | n + 1, b => by
    rw [List.replicate_succ, List.foldl_cons, foldl_copies a n (b ++ a), List.replicate_succ]
    simp
/-- one blank, n times -/
def rTimes : R2 := fun x y H Q => ∃ (c : Nat) (n : Int), x = .str ⟨#[c]⟩ ∧ y = .int n ∧ 0 ≤ n ∧ n ≤ 1000 ∧ Q (.str ⟨(List.replicate n.toNat c).toArray⟩) H
theorem times_one (c : Nat) (n : Int) (h0 : 0 ≤ n) : Txt.mul ⟨#[c]⟩ n = ⟨(List.replicate n.toNat c).toArray⟩ := by
  unfold Txt.mul
  by_cases h1 : n < 1
  · have : n = 0 := by omega
    subst this
    rfl
  · rw [if_neg h1]
    by_cases h2 : n = 1
    · subst h2
      rfl
    · have e2 : (n == 1 || (⟨#[c]⟩ : Str).length == 0) = false := by
        have : ((⟨#[c]⟩ : Str).length == 0) = false := rfl
        rw [this, Bool.or_false]
        simpa using h2
      rw [e2]
      simp only [Bool.false_eq_true, ↓reduceIte]
      congr 1
      apply Array.toList_inj.mp
      rw [foldl_copies]
      have hf : ∀ k : Nat, (List.replicate k [c]).flatten = List.replicate k c := by
        intro k
        induction k with
        | zero => rfl
        | succ k ih => rw [List.replicate_succ, List.flatten_cons, ih, List.replicate_succ]; rfl
      simp [hf]
theorem op_times {X : Cx} : OpR X (binaryOp .Mult) rTimes := by
  intro pins s σ H x y v u Q I rx ry h
  obtain ⟨c, n, rfl, rfl, h0, h1, q⟩ := h
  obtain ⟨t, rfl⟩ := rx
  obtain ⟨t2, rfl⟩ := ry
  have hz : (100000 : Nat) ≤ sizeLine := by rw [sizeLine_eq]; decide
  refine SB.mul ?_ fun t' k => ⟨.str _, H, I.tok k, ⟨t', rfl⟩, ?_⟩
  · refine ⟨?_, fun h2 _ => ?_, fun _ _ => ?_⟩
    · rw [Bool.or_eq_false_iff]
      exact ⟨decide_eq_false (by omega), decide_eq_false (by omega)⟩
    · show ¬ ((1 : Int) > (2 ^ 63 - 1) / n)
      have : (1 : Int) ≤ (2 ^ 63 - 1) / n := (Int.le_ediv_iff_mul_le (by omega)).mpr (by omega)
      omega
    · show decide _ = false
      refine decide_eq_false ?_
      show ¬ (1 * n.toNat > sizeLine)
      omega
  · rw [times_one c n h0]
    exact q
end EL

set_option Elab.async false
set_option linter.all false
set_option maxRecDepth 100000
set_option maxHeartbeats 4000000
/-! k02: own errors raised, caught, their field read in the suite -/
namespace EL
open PySem PySem.Spec PyProof.Rows L2
open PySem.EV (ErrC ErrI Hand OwnMade)
theorem err_raises {X : Cx} {C T : Addr} (Z : ErrC X.K C T) : Raises X (.ref C) := by
  refine raises_own ?_ ?_
  · exact (err_sub Z _).trans (by rw [List.contains_cons, List.contains_cons]; rfl)
  · obtain ⟨nm, q, N, bs, sn, sub, ab, col, dd, k0, k1, k2, k3, k5, hC⟩ := Z.cls
    show (X.K.lookup C).map (·.cls) = _
    rw [hC]
    rfl
section
variable {X : Cx} {C T fI : Addr} {x : Str}
/-- C(e), about to fly: its own dict holds the value -/
def tMkErr (C : Addr) (te : TE) : L2.St → Hp → XK → Prop := fun σ H Q => te σ H fun v H1 => ∀ d, H1 d = none → Q (.ref C) (some d) (upd H1 d (.xd [("value", v)]))
theorem pmk_err {e : Expr} {te : TE} {p pos : Pos} {k : Nat} (Z : ErrC X.K C T) (J : ErrI X.K C fI) (hr : Room k X.A) (hm : X.mg x = some (.ref C)) (he : PE X e te) (hg : Gl X x := by rfl) (hdb : (x == ("__debug__" : Str)) = false := by decide)
    (hs : starEach (e :: []) X.env = (false, eval e X.env) :: starEach [] X.env := by rfl) (hpl : (backTo pos (starEach [] X.env)).any (·.1) = false := by rfl) : PMk X (.Call (.Name x p) [e] [] pos) (tMkErr C te) := by
  intro pins s σ H Q I h
  refine wpAny_Call_Name_kw (ld_glob I hg hm ?_ hdb)
  refine PySem.W.callWith_K (h₀ := X.base) I.ok.mod.kin Z.kC (thn ((pa_cons he pa_nil hs).run pos pins s σ H (oneV fun v H1 => ∀ d, H1 d = none → Q (.ref C) (some d) (upd H1 d (.xd [("value", v)]))) I h) fun us s1 ⟨vs, H1, I1, r1, q1⟩ => ⟨I1.kIn, ?_⟩) hs hpl
  obtain ⟨v, rfl, q⟩ := oneV_of q1
  cases r1 with
  | cons rv rn =>
    skip
    cases rn
    have hlim := I1.nolimit
    obtain ⟨hp, g, dr, tk, os⟩ := s1
    refine wpAny_call (PySem.EV.err_made Z J (.place _) I1.kIn hlim (by have := hr.dp; omega) fun h' tk' e d M => ?_)
    show MkP X pins σ Q (.ref e) ⟨h', g, dr, tk', os⟩
    obtain ⟨t1, hoe⟩ := M.obj
    have hns := M.ns
    obtain ⟨G', g1, g2⟩ := restrict h' fun b => decide (b ≠ e)
    have gk : ∀ b, b ≠ e → G'.get? b = h'.get? b := fun b hb => g1 b (decide_eq_true hb)
    have ge : G'.get? e = none := g2 e (by simp)
    have old : ∀ b o, hp.get? b = some o → G'.get? b = some o := fun b o q => (gk b (Nat.ne_of_lt (Nat.lt_of_lt_of_le (Heap.lt_size q) M.new))).trans (M.keep b o q)
    have ob : ObjOk X.prog X.w (upd H1 d (.xd [("value", v)])) G' d (.xd [("value", v)]) :=
      ⟨_, hns.at (fun o q => (gk d M.dne).trans q), fun f => relO_value rv f⟩
    have J : Inv X pins σ (upd H1 d (.xd [("value", v)])) ⟨G', g, dr, tk', os⟩ := I1.laid (t' := tk') old M.dbig ob
    refine ⟨e, _, _, ⟨G', g, dr, tk', os⟩, _, .ref C, some d, rfl, J, fun b o q => ?_, ge, hoe, ⟨rfl, rfl⟩, rfl, rfl, ?_, rfl, I1.bare, err_raises Z, q d (I1.hok.fresh M.dbig)⟩
    · by_cases hb : b = e
      · rw [hb, ge] at q
        cases q
      · exact (gk b hb).symm.trans q
    · rw [upd_ne (Ne.symm M.dne)]
      exact I1.hok.fresh M.new
/-- raise C(e) -/
def tRaiseErr (C : Addr) (W : WX) (te : TE) : TS := fun _ σ H => tMkErr C te σ H fun cls d H' => W cls d σ H'
theorem ps_raiseErr {e : Expr} {te : TE} {W : WX} {p pos pos2 : Pos} {k : Nat} (hc : X.calm = true) (Z : ErrC X.K C T) (J : ErrI X.K C fI) (hr : Room k X.A) (tk : Takes X W) (hm : X.mg x = some (.ref C)) (he : PE X e te) (hg : Gl X x := by rfl) (hdb : (x == ("__debug__" : Str)) = false := by decide)
    (hs : starEach (e :: []) X.env = (false, eval e X.env) :: starEach [] X.env := by rfl) (hpl : (backTo pos (starEach [] X.env)).any (·.1) = false := by rfl) :
    PS X (.Raise (some (.Call (.Name x p) [e] [] pos)) none pos2) (tRaiseErr C W te) := ps_raise hc tk (pmk_err Z J hr hm he hg hdb hs hpl)
/-- e.value, e the error that the suite holds at a (its class cls, its dict d) -/
def tByVal (C : Addr) (a : Addr) (cls : Value) (d : Option Addr) (te : TE) : TE := fun σ H Q => te σ H fun x H1 => x = .ref a ∧ cls = .ref C ∧ ∃ (dd : Addr) (v : V), d = some dd ∧ H1 dd = some (.xd [("value", v)]) ∧ Q v H1
theorem pe_byVal {a : Addr} {oe : Obj} {cls : Value} {d : Option Addr} {pn : List (Addr × Obj)} {e : Expr} {te : TE} {pos : Pos} (Z : ErrC X.K C T) (hz : Zc cls d oe) (hf : ∃ vs, oe.data = .fields vs) (he : PE (X.suite a ((a, oe) :: pn)) e te)
    (hb : attributeBase e "value" X.env (eval e X.env) = eval e X.env := by rfl) :
    PE (X.suite a ((a, oe) :: pn)) (.Attribute e "value" pos) (tByVal C a cls d te) := by
  refine ⟨fun pins s σ H Q I h => ?_⟩
  refine attr_of hb (thn (he.run pins s σ H _ I h) fun u s1 hh => ?_)
  obtain ⟨y, H1, I1, rx, ex, ec, dd, v, ed, ea, q⟩ := hh
  subst ex
  obtain rfl : u = Value.ref a := rx
  subst ec
  subst ed
  obtain ⟨ha, _⟩ := I1.pin (a, oe) (List.mem_append_left _ List.mem_cons_self)
  obtain ⟨vs, hd⟩ := hf
  obtain ⟨mA, hns, hr⟩ := (show ObjOk X.prog X.w H1 s1.heap dd (.xd [("value", v)]) from I1.hok dd _ ea)
  obtain ⟨od, ho, hl⟩ := lookIn_ns hns
  have l : List.lookup ("value" : Str) [(("value" : Str), v)] = some v := by simp [List.lookup]
  obtain ⟨u, hu, ru⟩ := RelO.some_of (v := v) (o := mA "value") (by rw [← l]; exact hr "value")
  have J : PySem.W.InstAt s1.heap a oe C (some od) := ⟨ha, hz.1, by unfold PySem.W.notCls; rw [hd] <;> rfl, by rw [hz.2]; exact ho⟩
  have hs : PySem.W.subIn X.K (.ref C) (.type "BaseException") = some true := (err_sub Z _).trans (by rw [List.contains_cons, List.contains_cons]; rfl)
  exact HandSPX.exc_get I1.kIn J Z.ga Z.gg hs (PySem.W.findObj_own (err_hd Z) Z.noN rfl (by rw [hl, hu])) (handed_of ru) ⟨v, H1, I1.tok _, ru, q⟩
/-- such an error is what «except C» names -/
theorem err_exm {K : PySem.W.Frag} {C T : Addr} (Z : ErrC K C T) : PySem.W.exmOne K (.ref C) (.ref C) = some true := by
  have h1 : PySem.W.subIn K (.ref C) (.type "BaseException") = some true := (err_sub Z _).trans (by rw [List.contains_cons, List.contains_cons]; rfl)
  have h4 : PySem.W.subIn K (.ref C) (.ref C) = some true := (err_sub Z _).trans (by simp)
  obtain ⟨nm, q, N, bs, sn, sub, ab, col, dd, k0, k1, k2, k3, k5, hC⟩ := Z.cls
  have e1 : (PySem.W.subIn K (.ref C) (.type "BaseException") == some true) = true := by rw [h1]; rfl
  have e2 : ((PySem.W.clsIn K C).isSome && PySem.W.typeIn K (.ref C) == some (.type "type")) = true := by
    have h2 : (PySem.W.clsIn K C).isSome = true := by unfold PySem.W.clsIn; rw [hC]; rfl
    have h3 : PySem.W.typeIn K (.ref C) = some (.type "type") := by
      show (K.lookup C).map (·.cls) = _
      rw [hC]
      rfl
    rw [h2, h3]
    rfl
  unfold PySem.W.exmOne
  rw [if_pos e1]
  show (if ((PySem.W.clsIn K C).isSome && PySem.W.typeIn K (.ref C) == some (.type "type")) = true then PySem.W.subIn K (.ref C) (.ref C) else none) = some true
  rw [if_pos e2]
  exact h4
/-- a call of a def that may raise, where it doesn't -/
theorem passN {X : Cx} : Passes (L2.CX X.prog X.w) X E0 := fun _ _ _ _ _ _ _ h => by
  obtain ⟨_, _, _, _, _, _, _, _, _, _, _, _, q⟩ := h
  exact q.elim
end
end EL

set_option Elab.async false
set_option linter.all false
set_option maxRecDepth 100000
set_option maxHeartbeats 4000000
/-! the law's draws: purses, what is mixed and drawn -/
namespace LW
open PySem PySem.Spec PyProof.Rows L2
open TL (joinL tl tl_join join_eq)
/-! ### the text -/
def topS (i : Nat) : Stmt := PySem.Challenge.pw_keptreadings_k03_tokens_refused_and_by_n.main.body.getD i (.Pass ⟨0, 0, 0, 0⟩)
abbrev sPurse : Stmt := topS 77
abbrev sMixed : Stmt := topS 78
abbrev sDraw : Stmt := topS 79
abbrev sPurses : Stmt := topS 80
abbrev sOneOf : Stmt := topS 81
abbrev sWord : Stmt := topS 84
theorem scPurse : FnScope ["_law_script", "_law_at", "_law_seed"] ["_law_script", "_law_at"] (defScope sPurse) := ⟨rfl, rfl, rfl, by decide +kernel, rfl, by decide +kernel, by decide +kernel⟩
theorem scMixed : FnScope ["_law_seed", "_law_turn", "_law_at", "_law_mixed_here"] ["_law_seed", "_law_turn", "_law_at"] (defScope sMixed) := ⟨rfl, rfl, rfl, by decide +kernel, rfl, by decide +kernel, by decide +kernel⟩
theorem scDraw : FnScope ["_law_purse_here", "_law_many", "_law_drawn", "_law_found", "_law_piece"] ["_law_purse_here", "_law_many"] (defScope sDraw) := ⟨rfl, rfl, rfl, by decide +kernel, rfl, by decide +kernel, by decide +kernel⟩
theorem scPurses : FnScope ["_law_script", "_law_few", "_law_at"] ["_law_script", "_law_few"] (defScope sPurses) := ⟨rfl, rfl, rfl, by decide +kernel, rfl, by decide +kernel, by decide +kernel⟩
theorem scOneOf : FnScope ["_law_purse_here", "_law_some"] ["_law_purse_here", "_law_some"] (defScope sOneOf) := ⟨rfl, rfl, rfl, by decide +kernel, rfl, by decide +kernel, by decide +kernel⟩
theorem scWord : FnScope ["_law_purse_here", "_law_size", "_law_turn"] ["_law_purse_here"] (defScope sWord) := ⟨rfl, rfl, rfl, by decide +kernel, rfl, by decide +kernel, by decide +kernel⟩
/-! ### heaps -/
/-- all that was tracked is as it was, but what stands at a -/
def Keep (a : Addr) (H H' : Hp) : Prop := ∀ b o, b ≠ a → H b = some o → H' b = some o
theorem Keep.refl {a : Addr} {H : Hp} : Keep a H H := fun _ _ _ h => h
theorem Keep.trans {a : Addr} {H H1 H2 : Hp} (x : Keep a H H1) (y : Keep a H1 H2) : Keep a H H2 := fun b o n h => y b o n (x b o n h)
theorem _root_.L2.Same.keep {a : Addr} {H H' : Hp} (x : Same H H') : Keep a H H' := fun b o _ h => x b o h
theorem keep_upd {a : Addr} {H : Hp} {o : HO} : Keep a H (upd H a o) := fun b u n h => by rw [upd_ne n]; exact h
theorem same_upd {H : Hp} {p : Addr} {o : HO} (h : H p = none) : Same H (upd H p o) := fun b x e => by
  rw [upd_ne (ne_of_none e h)]
  exact e
theorem Keep.none {a b : Addr} {H H' : Hp} (x : Keep a H H') (hb : b ≠ a) (h : H' b = Option.none) : H b = Option.none := by
  cases q : H b with
  | none => rfl
  | some o =>
    rw [x b o hb q] at h
    cases h
theorem Keep.seq {K : PySem.W.Frag} {H H' : Hp} {a b : Addr} {xs : List V} (e : Keep a H H') (hb : b ≠ a) (h : SqL K H b xs) : SqL K H' b xs := by
  rcases h with (h | ⟨o, h⟩) | h
  · exact .inl (.inl (e _ _ hb h))
  · exact .inl (.inr ⟨o, e _ _ hb h⟩)
  · exact .inr h
/-- a purse at a, of which at most n draws were made -/
def Purse (H : Hp) (a : Addr) (n : Nat) : Prop := ∃ (p q t i : Int), H a = some (.lst [.int p, .int q, .int t, .int i]) ∧ 0 ≤ p ∧ 0 ≤ q ∧ q < 2147483629 ∧ 0 ≤ t ∧ t ≤ n
theorem Purse.keep {H H' : Hp} {a b : Addr} {n : Nat} (h : Purse H a n) (k : Keep b H H') (hab : a ≠ b) : Purse H' a n := by
  obtain ⟨p, q, t, i, e, r⟩ := h
  exact ⟨p, q, t, i, k _ _ hab e, r⟩
theorem Purse.same {H H' : Hp} {a : Addr} {n : Nat} (h : Purse H a n) (k : Same H H') : Purse H' a n := by
  obtain ⟨p, q, t, i, e, r⟩ := h
  exact ⟨p, q, t, i, k _ _ e, r⟩
theorem Purse.more {H : Hp} {a : Addr} {n m : Nat} (h : Purse H a n) (k : n ≤ m) : Purse H a m := by
  obtain ⟨p, q, t, i, e, h0, h1, h2, h3, h4⟩ := h
  exact ⟨p, q, t, i, e, h0, h1, h2, h3, by omega⟩
theorem lc_turn {σ : L2.St} {H : Hp} {A B : Hp → Prop} (h : A H) : tYes σ H (fun b H3 => if b = true then A H3 else B H3) := by
  show (if true = true then A H else B H)
  rw [if_pos rfl]
  exact h
/-! ### a great power -/
def CPowW (i j : Int) : Prop := 0 ≤ j ∧ (Builtin.Int.intBits i : Int) * j ≤ 2 ^ 27
theorem op_powW {X : Cx} : OpR X (binaryOp .Pow) (rI CPowW fun i j => .int (i ^ j.toNat)) := opI fun _ _ _ _ _ _ _ hc q => pow_int hc.1 hc.2 q
section
variable {P : Program} {w : World} {K : PySem.W.Frag} {mg : Str → Option Value} {base : Heap}
/-! ### _law_purse -/
def spPurse (K : PySem.W.Frag) : Sp := fun vs H Q _ => ∃ (a : Addr) (ns : List Int) (i : Nat), vs = [.ref a, .int i] ∧ SqL K H a (ns.map V.int) ∧ i < 1000 ∧ ∀ H' p, Same H H' → H p = none → Purse H' p 0 → Q (.ref p) H'
theorem sliced (ns : List Int) (i : Nat) : ∃ ms : List Int, cutV (ns.map V.int) (some (i : Int)) (some ((i : Int) + 1)) = ms.map V.int := by
  unfold cutV
  rw [← List.map_drop, ← List.map_take]
  exact ⟨_, rfl⟩
theorem ok_purse {f : Addr} {fd : FuncData} {k : Nat} (F : Fun K "_law_purse" "_law_purse" sPurse f fd) (ms : mg "sum" = none) (mi : mg "int" = none) (mm : mg "max" = none) : FnOk P w K mg base CX0 (k + 1) f fd ["_law_script", "_law_at"] (spPurse K) := by
  refine F.ok scPurse (fun vs H Q E h => ?_) (fun cdv A outer s H vs Q E hr h => ?_)
  · obtain ⟨a, ns, i, rfl, _⟩ := h
    rfl
  · obtain ⟨a, ns, i, rfl, hS, hi, q⟩ := h
    refine ⟨_, pss_cons (ps_set (i := 2) scPurse.nd rfl (.inl rfl) (pe_callB (cr_sum rfl) (by rfl) ms (by decide +kernel) (pa_cons (pe_slice sl_list (pv 0) (po_some (pv 1)) (po_some (pe_op op_add (pv 1) pe_int))) pa_nil)))
      (pss_one (ps_ret (pe_lst (pa_cons (pe_op op_modN (pe_callTy call_int1 (by rfl) mi (by decide +kernel) (pa_cons (pe_callB (call_max2 rfl) (by rfl) mm (by decide +kernel) (pa_cons (pe_op op_sub (pv 2) (pe_op op_pow pe_int pe_int)) (pa_cons pe_int pa_nil))) pa_nil)) (pe_op op_powW (pe_op op_pow pe_int pe_int) pe_int))
        (pa_cons (pe_op op_mod (pe_callTy call_int1 (by rfl) mi (by decide +kernel) (pa_cons (pv 2) pa_nil)) pe_int) (pa_cons pe_int (pa_cons (pv 1) pa_nil))))))), ?_⟩
    obtain ⟨ms', ems⟩ := sliced ns i
    refine ⟨.ref a, rfl, .int i, rfl, (i : Int), rfl, .int i, rfl, _, _, rfl, rfl, (i : Int) + 1, rfl, a, _, rfl, hS, fun c nc => ?_⟩
    rw [ems]
    have s1 : Same H (upd H c (.lst (ms'.map V.int))) := same_upd nc
    refine ⟨c, ms', rfl, SqL.of upd_same, ?_⟩
    -- the list
    generalize ms'.sum = z
    refine ⟨.int z, rfl, _, _, rfl, rfl, ⟨by decide, by decide, by decide⟩, _, _, rfl, rfl, _, _, rfl, .inl ⟨_, rfl, _, _, rfl, rfl, ⟨by decide, by decide, by decide⟩, _, _, rfl, rfl, ⟨by decide, by decide +kernel⟩, _, _, rfl, rfl, (by show ((10 : Int) ^ Int.toNat 60) ^ Int.toNat 8 ≠ 0; decide +kernel), ?_⟩⟩
    refine ⟨.int z, rfl, .inl ⟨_, rfl, _, _, rfl, rfl, (by show (0 : Int) < 2147483629; decide), .int i, rfl, by show 4 ≤ sizeLine; decide, fun p np => ?_⟩⟩
    refine q _ p (s1.trans (same_upd np)) (s1.free np) ⟨_, _, _, _, upd_same, ?_, ?_, ?_, Int.le_refl _, Int.le_refl _⟩
    · have hb : (0 : Int) < (10 ^ Int.toNat 60) ^ Int.toNat 8 := by decide +kernel
      show (0 : Int) ≤ Int.fmod _ ((10 ^ Int.toNat 60) ^ Int.toNat 8)
      rw [Int.fmod_eq_emod_of_nonneg _ (Int.le_of_lt hb)]
      exact Int.emod_nonneg _ (Int.ne_of_gt hb)
    · exact Int.emod_nonneg _ (by decide)
    · exact Int.emod_lt_of_pos _ (by decide)
/-! ### _law_mixed -/
def spMixed : Sp := fun vs H Q _ => ∃ (s t a : Int), vs = [.int s, .int t, .int a] ∧ 0 ≤ t ∧ t < 2 ^ 63 ∧ ∀ r : Int, 0 ≤ r → r < 2147483587 → Q (.int r) H
theorem ok_mixed {f : Addr} {fd : FuncData} {k : Nat} (F : Fun K "_law_mixed" "_law_mixed" sMixed f fd) (mi : mg "int" = none) : FnOk P w K mg base CX0 (k + 1) f fd ["_law_seed", "_law_turn", "_law_at"] spMixed := by
  refine F.ok scMixed (fun vs H Q E h => ?_) (fun cdv A outer s H vs Q E hr h => ?_)
  · obtain ⟨a, b, c, rfl, _⟩ := h
    rfl
  · obtain ⟨a, t, c, rfl, h0, h1, q⟩ := h
    have big : -(2 ^ 64) < t ∧ t < 2 ^ 64 := by omega
    refine ⟨_, pss_cons (ps_set (i := 3) scMixed.nd rfl (.inl rfl) (pe_op op_add (pe_op op_mul (pv 0) pe_int) (pe_op op_mul (pe_op op_mul pe_int (pv 1)) (pv 1))))
      (pss_cons (ps_set (i := 3) scMixed.nd rfl (.inl rfl) (pe_op op_mod (pe_callTy call_int1 (by rfl) mi (by decide +kernel) (pa_cons (pe_op op_add (pe_op op_add (pv 3) (pe_op op_mul pe_int (pv 2))) (pv 1)) pa_nil)) pe_int))
      (pss_cons (ps_set (i := 3) scMixed.nd rfl (.inl rfl) (pe_op op_mod (pe_callTy call_int1 (by rfl) mi (by decide +kernel) (pa_cons (pe_op op_add (pe_op op_mul (pv 3) (pv 3)) pe_int) pa_nil)) pe_int))
      (pss_one (ps_ret (pe_op op_mod (pe_callTy call_int1 (by rfl) mi (by decide +kernel) (pa_cons (pe_op op_mul (pv 3) pe_int) pa_nil)) pe_int))))), ?_⟩
    refine ⟨.int a, rfl, _, _, rfl, rfl, .inr (by constructor <;> decide), .int t, rfl, _, _, rfl, rfl, .inl (by constructor <;> decide), .int t, rfl, _, _, rfl, rfl, .inr big, _, _, rfl, rfl, ?_⟩
    refine ⟨_, rfl, .int c, rfl, _, _, rfl, rfl, .inl (by constructor <;> decide), _, _, rfl, rfl, .int t, rfl, _, _, rfl, rfl, .inl ⟨_, rfl, _, _, rfl, rfl, (by show (0 : Int) < 2147483647; decide), ?_⟩⟩
    have x0 : 0 ≤ (a * 69069 + 104729 * t * t + 7919 * c + t) % 2147483647 := Int.emod_nonneg _ (by decide)
    have x1 : (a * 69069 + 104729 * t * t + 7919 * c + t) % 2147483647 < 2147483647 := Int.emod_lt_of_pos _ (by decide)
    refine ⟨_, rfl, _, rfl, _, _, rfl, rfl, .inl (show -(2 ^ 64) < (a * 69069 + 104729 * t * t + 7919 * c + t) % 2147483647 ∧ (a * 69069 + 104729 * t * t + 7919 * c + t) % 2147483647 < 2 ^ 64 from ⟨by omega, by omega⟩), _, _, rfl, rfl, .inl ⟨_, rfl, _, _, rfl, rfl, (by show (0 : Int) < 2147483629; decide), ?_⟩⟩
    refine ⟨_, rfl, _, _, rfl, rfl, .inr (by constructor <;> decide), .inl ⟨_, rfl, _, _, rfl, rfl, (by show (0 : Int) < 2147483587; decide), ?_⟩⟩
    exact q _ (Int.emod_nonneg _ (by decide)) (Int.emod_lt_of_pos _ (by decide))
/-! ### _law_draw -/
def spDraw : Sp := fun vs H Q _ => ∃ (a : Addr) (m : Int) (n : Nat), vs = [.ref a, .int m] ∧ Purse H a n ∧ n < 2 ^ 40 ∧ 0 < m ∧ m < 2 ^ 26 ∧ ∀ (r : Int) H', 0 ≤ r → r < m → Keep a H H' → Purse H' a (n + 1) → Q (.int r) H'
theorem ok_draw {f fM : Addr} {fd fdM : FuncData} (F : Fun K "_law_draw" "_law_draw" sDraw f fd) (FM : Fun K "_law_mixed" "_law_mixed" sMixed fM fdM) (bM : Binds K fdM ["_law_seed", "_law_turn", "_law_at"] []) (gM : mg "_law_mixed" = some (.ref fM)) (mi : mg "int" = none) (mr : mg "range" = none) :
    FnOk P w K mg base CX0 2 f fd ["_law_purse_here", "_law_many"] spDraw := by
  have GM : FnOk P w K mg base CX0 1 fM fdM ["_law_seed", "_law_turn", "_law_at"] spMixed := ok_mixed FM mi
  refine F.ok scDraw (fun vs H Q E h => ?_) (fun cdv A outer s H vs Q E hr h => ?_)
  · obtain ⟨a, m, n, rfl, _⟩ := h
    rfl
  · obtain ⟨a, m, n, rfl, hP, hn, m0, m1, q⟩ := h
    have nd := scDraw.nd
    refine ⟨_, pss_cons (ps_if (pt_cmpR op_gt (pe_ix ix_list (pv 0) pe_int (fun _ _ => rfl)) pe_int (nomark _))
        (pss_cons (ps_set (i := 2) nd rfl (.inl rfl) (pe_op op_mod (pe_callTy call_int1 (by rfl) mi (by decide +kernel) (pa_cons (pe_ix ix_list (pv 0) pe_int (fun _ _ => rfl)) pa_nil)) (pv 1)))
        (pss_cons (ps_asg (pe_op op_fdivN (pe_ix ix_list (pv 0) pe_int (fun _ _ => rfl)) (pv 1)) (pg_sub (pv 0) pe_int set_list))
        (pss_one (ps_ret (pv 2))))) pss_nil)
      (pss_cons (ps_set (i := 3) nd rfl (.inl rfl) pe_int)
      (pss_cons (ps_for PassesOwn.never rfl (pi_range1 rfl mr (pa_cons (pe_op op_add pe_int (pe_op op_fdiv (pe_bits (pv 1)) pe_int)) pa_nil)) (pg_name (i := 4) nd rfl (.inl rfl))
        (pss_cons (ps_asg (pe_op op_add (pe_ix ix_list (pv 0) pe_int (fun _ _ => rfl)) pe_int) (pg_sub (pv 0) pe_int set_list))
        (pss_one (ps_set (i := 3) nd rfl (.inl rfl) (pe_op op_add (pe_op op_mul (pv 3) pe_int) (pe_call GM hr (by rfl) gM FM.kp bM .nil pass0 (pa_cons (pe_ix ix_list (pv 0) pe_int (fun _ _ => rfl)) (pa_cons (pe_ix ix_list (pv 0) pe_int (fun _ _ => rfl)) (pa_cons (pe_ix ix_list (pv 0) pe_int (fun _ _ => rfl)) pa_nil)))))))))
      (pss_one (ps_ret (pe_op op_mod (pe_callTy call_int1 (by rfl) mi (by decide +kernel) (pa_cons (pv 3) pa_nil)) (pv 1)))))), ?_⟩
    obtain ⟨p, qq, t, i, e, p0, q0, q1, t0, t1⟩ := hP
    refine ⟨.ref a, rfl, a, _, 0, .int p, rfl, rfl, SqL.of e, atI_nat (j := 0) rfl, _, _, rfl, rfl, _, rfl, ite2 (fun c => ?_) (fun c => ?_)⟩
    · have hp : 0 < p := of_decide_eq_true c
      refine ⟨.ref a, rfl, a, _, 0, .int p, rfl, rfl, SqL.of e, atI_nat (j := 0) rfl, .inl ⟨_, rfl, .int m, rfl, _, _, rfl, rfl, m0, ?_⟩⟩
      refine ⟨.ref a, rfl, a, _, 0, .int p, rfl, rfl, SqL.of e, atI_nat (j := 0) rfl, .int m, rfl, _, _, rfl, rfl, ⟨by omega, by omega⟩, .ref a, rfl, ?_⟩
      refine ⟨a, _, 0, 0, rfl, rfl, e, rfl, _, rfl, ?_⟩
      exact q _ _ (Int.emod_nonneg _ (by omega)) (Int.emod_lt_of_pos _ m0) keep_upd ⟨_, _, _, _, upd_same, Int.fdiv_nonneg p0 (Int.le_of_lt m0), q0, q1, t0, by omega⟩
    · have hb : Builtin.Int.intBits m ≤ 26 := PyProof.Rows.intBits_le (by omega)
      have hN : Int.toNat ((1 : Int) + (Builtin.Int.intBits m : Int) / 28) = 1 := by omega
      refine ⟨.int m, rfl, _, rfl, _, _, rfl, rfl, ⟨by decide, by decide⟩, _, _, rfl, rfl, ?_⟩
      refine ⟨_, rfl, ?_, ?_, for_range (n := Int.toNat ((1 : Int) + (Builtin.Int.intBits m : Int) / 28)) (fun j σ H' => ∃ (z : Int) (y : Option V), σ = [some (.ref a), some (.int m), none, some (.int z), y] ∧ Keep a H H' ∧ H' a = some (.lst [.int p, .int qq, .int (t + j), .int i])) ⟨0, none, rfl, Keep.refl, ?_⟩ ?_ ?_⟩
      · show -(2 ^ 62) ≤ (1 : Int) + (Builtin.Int.intBits m : Int) / 28
        omega
      · show (1 : Int) + (Builtin.Int.intBits m : Int) / 28 < 2 ^ 62
        omega
      · simpa using e
      · rintro j σ H' hj ⟨z, y, rfl, k1, e1⟩
        have hj0 : j = 0 := by
          rw [hN] at hj
          omega
        subst hj0
        refine ⟨.ref a, rfl, a, _, 2, _, rfl, rfl, SqL.of e1, atI_nat (j := 2) rfl, _, _, rfl, rfl, .ref a, rfl, a, _, 2, 2, rfl, rfl, e1, rfl, ?_⟩
        refine ⟨_, rfl, _, _, rfl, rfl, .inr (by constructor <;> decide), ?_⟩
        refine ⟨.ref a, rfl, a, _, 1, _, rfl, rfl, SqL.of upd_same, atI_nat (j := 1) rfl, .ref a, rfl, a, _, 2, _, rfl, rfl, SqL.of upd_same, atI_nat (j := 2) rfl, .ref a, rfl, a, _, 3, _, rfl, rfl, SqL.of upd_same, atI_nat (j := 3) rfl, ?_⟩
        refine ⟨_, _, _, rfl, ?_, ?_, fun r r0 r1 => ?_⟩
        · show 0 ≤ t + ((0 : Nat) : Int) + 1
          omega
        · show t + ((0 : Nat) : Int) + 1 < 2 ^ 63
          omega
        · refine ⟨_, _, rfl, rfl, _, _, rfl, k1.trans keep_upd, ?_⟩
          have et : t + ((0 : Nat) : Int) + 1 = t + ((0 + 1 : Nat) : Int) := by omega
          rw [upd_same, ← et]
          rfl
      · rw [hN]
        rintro σ H' ⟨z, y, rfl, k1, e1⟩
        refine ⟨_, rfl, .inl ⟨_, rfl, .int m, rfl, _, _, rfl, rfl, m0, ?_⟩⟩
        refine q _ _ (Int.emod_nonneg _ (by omega)) (Int.emod_lt_of_pos _ m0) k1 ⟨_, _, _, _, e1, p0, q0, q1, ?_, ?_⟩
        · show 0 ≤ t + ((1 : Nat) : Int)
          omega
        · show t + ((1 : Nat) : Int) ≤ ((n + 1 : Nat) : Int)
          omega
/-! ### _law_one_of -/
def spOneOf (K : PySem.W.Frag) : Sp := fun vs H Q _ => ∃ (a b : Addr) (xs : List V) (n : Nat), vs = [.ref a, .ref b] ∧ Purse H a n ∧ n < 2 ^ 40 ∧ SqL K H b xs ∧ b ≠ a ∧ 0 < xs.length ∧ xs.length < 2 ^ 26 ∧ ∀ (v : V) H', v ∈ xs → Keep a H H' → Purse H' a (n + 1) → Q v H'
theorem ok_oneof {f fD : Addr} {fd fdD : FuncData} (F : Fun K "_law_one_of" "_law_one_of" sOneOf f fd) (kD : PySem.W.keepIn K (.ref fD) = true) (GD : FnOk P w K mg base CX0 2 fD fdD ["_law_purse_here", "_law_many"] spDraw) (bD : Binds K fdD ["_law_purse_here", "_law_many"] []) (gD : mg "_law_draw" = some (.ref fD)) (ml : mg "len" = none) :
    FnOk P w K mg base CX0 3 f fd ["_law_purse_here", "_law_some"] (spOneOf K) := by
  refine F.ok scOneOf (fun vs H Q E h => ?_) (fun cdv A outer s H vs Q E hr h => ?_)
  · obtain ⟨a, b, xs, n, rfl, _⟩ := h
    rfl
  · obtain ⟨a, b, xs, n, rfl, hP, hn, hS, hab, l0, l1, q⟩ := h
    refine ⟨_, pss_one (ps_ret (pe_ix ix_list (pv 1) (pe_call GD hr (by rfl) gD kD bD .nil pass0 (pa_cons (pv 0) (pa_cons (pe_callB call_len_seq (by rfl) ml PySem.boot_len (pa_cons (pv 1) pa_nil)) pa_nil))) (fun _ _ => rfl))), ?_⟩
    refine ⟨.ref b, rfl, .ref a, rfl, .ref b, rfl, b, xs, rfl, .inl hS, a, xs.length, n, rfl, hP, hn, by omega, by omega, fun r H' r0 r1 k1 P1 => ?_⟩
    have hr : r.toNat < xs.length := by omega
    refine ⟨b, xs, r, xs[r.toNat], rfl, rfl, k1.seq hab hS, ?_, q _ _ (List.getElem_mem hr) k1 P1⟩
    have er : r = ((r.toNat : Nat) : Int) := by omega
    have g : xs[r.toNat]? = some xs[r.toNat] := List.getElem?_eq_getElem hr
    have := atI_nat (j := r.toNat) g
    rw [← er] at this
    exact this
/-! ### _law_purses -/
def spPurses (K : PySem.W.Frag) : Sp := fun vs H Q _ => ∃ (a : Addr) (ns : List Int) (m : Nat), vs = [.ref a, .int m] ∧ SqL K H a (ns.map V.int) ∧ ns.length ≤ 63 ∧ m < 60 ∧ ∀ (H' : Hp) (p : Addr) (as : List Addr), Same H H' → H p = none → H' p = some (.lst (as.map V.ref)) → as.length ≤ 60 → as.Nodup → p ∉ as → (∀ x ∈ as, Purse H' x 0 ∧ H x = none) → Q (.ref p) H'
theorem clamp (l m : Int) (h0 : 0 ≤ l) (h1 : 0 ≤ m) (h2 : m ≤ 60) : 0 ≤ (if (if l < m then l else m) > 1 then (if l < m then l else m) else 1) ∧ (if (if l < m then l else m) > 1 then (if l < m then l else m) else 1) ≤ 60 := by
  constructor <;> (repeat' split) <;> omega
theorem ok_purses {f fP : Addr} {fd fdP : FuncData} (F : Fun K "_law_purses" "_law_purses" sPurses f fd) (kP : PySem.W.keepIn K (.ref fP) = true) (GP : FnOk P w K mg base CX0 1 fP fdP ["_law_script", "_law_at"] (spPurse K)) (bP : Binds K fdP ["_law_script", "_law_at"] []) (gP : mg "_law_purse" = some (.ref fP))
    (ml : mg "len" = none) (mr : mg "range" = none) (mx : mg "max" = none) (mn : mg "min" = none) : FnOk P w K mg base CX0 2 f fd ["_law_script", "_law_few"] (spPurses K) := by
  refine F.ok scPurses (fun vs H Q E h => ?_) (fun cdv A outer s H vs Q E hr h => ?_)
  · obtain ⟨a, ns, m, rfl, _⟩ := h
    rfl
  · obtain ⟨a, ns, m, rfl, hS, hl, hm, q⟩ := h
    refine ⟨_, pss_one (ps_ret (pe_lc (own := [("_law_at", 2)]) (g := gName 2) (tt := tYes) rfl scPurses.nd (pi_range1 rfl mr (pa_cons (pe_callB (call_max2 rfl) (by rfl) mx (by decide +kernel) (pa_cons pe_int (pa_cons (pe_callB (call_min2 rfl) (by rfl) mn (by decide +kernel) (pa_cons (pv 1) (pa_cons (pe_callB call_len_seq (by rfl) ml PySem.boot_len (pa_cons (pv 0) pa_nil)) pa_nil))) pa_nil))) pa_nil))
      (blkOk_by (own := [("_law_at", 2)]) (N := ["_law_script", "_law_few", "_law_at"]) (sc := defScope sPurses) (by decide +kernel)) (fun _ _ _ _ _ => pg_name (i := 2) scPurses.nd rfl (Or.inl rfl)) (fun _ _ _ _ _ => pts_nil)
      (fun _ _ _ _ _ => pe_call GP hr (by rfl) gP kP bP .nil pass0 (pa_cons (pv 0) (pa_cons (pv 2) pa_nil))))), ?_⟩
    refine ⟨.int m, rfl, .ref a, rfl, a, _, rfl, .inl hS, _, _, rfl, _, _, rfl, ?_⟩
    obtain ⟨v0, v1⟩ := clamp ((ns.map V.int).length : Int) (m : Int) (Int.natCast_nonneg _) (Int.natCast_nonneg _) (by omega)
    refine ⟨_, rfl, ?_, ?_, fun D nD => ?_⟩
    · exact Int.le_trans (by decide) v0
    · exact Int.lt_of_le_of_lt v1 (by decide)
    have h60 : (60 : Nat) < sizeLine := by rw [sizeLine_eq]; decide
    refine lc_range (lo := 0) (n := ((if (if ((ns.map V.int).length : Int) < (m : Int) then ((ns.map V.int).length : Int) else (m : Int)) > 1 then (if ((ns.map V.int).length : Int) < (m : Int) then ((ns.map V.int).length : Int) else (m : Int)) else 1)).toNat) (fun i H' => ∃ as : List Addr, as.length = i ∧ Same H H' ∧ H' D = some (.lst (as.map V.ref)) ∧ as.Nodup ∧ D ∉ as ∧ ∀ x ∈ as, Purse H' x 0 ∧ H x = none) ⟨[], rfl, same_upd nD, upd_same, List.nodup_nil, by simp, by simp⟩ ?_ ?_
    · rintro i H1 hi ⟨as, el, s1, eD, hnd, hD, hA⟩
      have hi2 : i < 60 := by omega
      refine ⟨rfl, ?_⟩
      refine lc_turn ?_
      refine ⟨.ref a, rfl, .int (0 + (i : Int)), rfl, a, ns, i, ?_, s1.seq hS, by omega, fun H2 p s2 np hp => ?_⟩
      · show [V.ref a, V.int (0 + (i : Int))] = [V.ref a, V.int (i : Int)]
        rw [Int.zero_add]
      · have pD : D ≠ p := ne_of_none eD np
        have pas : p ∉ as := fun hx => by
          obtain ⟨⟨p', q', t', i', e', _⟩, _⟩ := hA p hx
          rw [np] at e'
          cases e'
        refine ⟨as.map V.ref, s2 _ _ eD, ?_, as ++ [p], ?_, ?_, ?_, ?_, ?_, ?_⟩
        · rw [List.length_map]
          omega
        · rw [List.length_append, el]
          rfl
        · intro b o hb
          rw [upd_ne (ne_of_none hb nD)]
          exact s2 _ _ (s1 _ _ hb)
        · rw [upd_same, List.map_append]
          rfl
        · rw [List.nodup_append]
          exact ⟨hnd, (by simp), fun x hx y hy => by
            rw [List.mem_singleton] at hy
            subst hy
            exact fun e => pas (e ▸ hx)⟩
        · rw [List.mem_append, List.mem_singleton]
          exact fun h => h.elim hD pD
        · intro x hx
          rw [List.mem_append, List.mem_singleton] at hx
          rcases hx with hx | rfl
          · obtain ⟨h1, h2⟩ := hA x hx
            refine ⟨?_, h2⟩
            exact (h1.same s2).keep keep_upd (fun e => hD (e ▸ hx))
          · refine ⟨hp.keep keep_upd pD.symm, s1.free np⟩
    · rintro H1 ⟨as, el, s1, eD, hnd, hD, hA⟩
      exact q H1 D as s1 nD eD (by omega) hnd hD hA
/-! ### _law_word -/
def Letters (x : Str) : Prop := ∀ c ∈ x.cps.toList, 97 ≤ c ∧ c ≤ 122
theorem joinL_len : ∀ ps : List (List Nat), (joinL [] ps).length = (ps.map List.length).sum
  | [] => rfl
  | [p] => by simp [joinL]
  | p :: q :: r => by
    have ih := joinL_len (q :: r)
    show (p ++ ([] ++ joinL [] (q :: r))).length = _
    rw [List.nil_append, List.length_append, ih, List.map_cons (l := q :: r), List.sum_cons]
theorem joinL_mem {c : Nat} : ∀ ps : List (List Nat), c ∈ joinL [] ps → ∃ p ∈ ps, c ∈ p
  | [], h => by cases h
  | [p], h => ⟨p, List.mem_singleton.mpr rfl, h⟩
  | p :: q :: r, h => by
    have h' : c ∈ p ++ ([] ++ joinL [] (q :: r)) := h
    rw [List.nil_append, List.mem_append] at h'
    rcases h' with h | h
    · exact ⟨p, List.mem_cons_self, h⟩
    · obtain ⟨p', h1, h2⟩ := joinL_mem (q :: r) h
      exact ⟨p', List.mem_cons_of_mem _ h1, h2⟩
theorem ones_sum : ∀ ys : List Str, (∀ y ∈ ys, y.length = 1) → (ys.map (·.length)).sum = ys.length
  | [], _ => rfl
  | y :: r, h => by
    rw [List.map_cons, List.sum_cons, h y List.mem_cons_self, ones_sum r fun z hz => h z (List.mem_cons_of_mem _ hz), List.length_cons]
    omega
theorem join_ones {ys : List Str} (h : ∀ y ∈ ys, y.length = 1) (hl : ∀ y ∈ ys, Letters y) : (Txt.join "" ys).length = ys.length ∧ Letters (Txt.join "" ys) := by
  have e : tl (Txt.join "" ys) = joinL [] (ys.map tl) := by
    rw [join_eq, tl_join]
    rfl
  constructor
  · have l : (Txt.join "" ys).length = (tl (Txt.join "" ys)).length := (Array.length_toList ..).symm
    rw [l, e, joinL_len, List.map_map]
    have : (List.length ∘ tl) = (fun y : Str => y.length) := by
      funext y
      exact Array.length_toList ..
    rw [this]
    exact ones_sum ys h
  · intro c hc
    have hc' : c ∈ tl (Txt.join "" ys) := hc
    rw [e] at hc'
    obtain ⟨p, hp, hcp⟩ := joinL_mem _ hc'
    obtain ⟨y, hy, rfl⟩ := List.mem_map.mp hp
    exact hl y hy c hcp
theorem abc : ∀ i : Nat, i < 26 → (Str.ofString "abcdefghijklmnopqrstuvwxyz").cps.toList[i]? = some (97 + i) := by decide +kernel
/-- a drawn word: one to eight letters -/
def spWord : Sp := fun vs H Q _ => ∃ (a : Addr) (n : Nat), vs = [.ref a] ∧ Purse H a n ∧ n < 2 ^ 30 ∧ ∀ (x : Str) H', 1 ≤ x.length → x.length ≤ 8 → Letters x → Keep a H H' → Purse H' a (n + 10) → Q (.str x) H'
theorem ok_word {f fD : Addr} {fd fdD : FuncData} (F : Fun K "_law_word" "_law_word" sWord f fd) (kD : PySem.W.keepIn K (.ref fD) = true) (GD : FnOk P w K mg base CX0 2 fD fdD ["_law_purse_here", "_law_many"] spDraw) (bD : Binds K fdD ["_law_purse_here", "_law_many"] []) (gD : mg "_law_draw" = some (.ref fD)) (mr : mg "range" = none) :
    FnOk P w K mg base CX0 3 f fd ["_law_purse_here"] spWord := by
  refine F.ok scWord (fun vs H Q E h => ?_) (fun cdv A outer s H vs Q E hr h => ?_)
  · obtain ⟨a, n, rfl, _⟩ := h
    rfl
  · obtain ⟨a, n, rfl, hP, hn, q⟩ := h
    refine ⟨_, pss_cons (ps_set (i := 1) scWord.nd rfl (.inl rfl) (pe_op op_add pe_int (pe_call GD hr (by rfl) gD kD bD .nil pass0 (pa_cons (pv 0) (pa_cons (pe_ifExp (pt_cmpR op_eq (pe_call GD hr (by rfl) gD kD bD .nil pass0 (pa_cons (pv 0) (pa_cons pe_int pa_nil))) pe_int (nomark _)) pe_int pe_int) pa_nil)))))
      (pss_one (ps_ret (pe_join pe_str (pe_lc (own := [("_law_turn", 2)]) (g := gName 2) (tt := tYes) rfl scWord.nd (pi_range1 rfl mr (pa_cons (pv 1) pa_nil))
        (blkOk_by (own := [("_law_turn", 2)]) (N := ["_law_purse_here", "_law_size", "_law_turn"]) (sc := defScope sWord) (by decide +kernel)) (fun _ _ _ _ _ => pg_name (i := 2) scWord.nd rfl (Or.inl rfl)) (fun _ _ _ _ _ => pts_nil)
        (fun _ _ _ _ _ => pe_ix ix_str pe_str (pe_call GD hr (by rfl) gD kD bD .nil pass0 (pa_cons (pv 0) (pa_cons pe_int pa_nil))) (fun _ _ => rfl)))))), ?_⟩
    refine ⟨.ref a, rfl, .ref a, rfl, a, 3, n, rfl, hP, by omega, by decide, by decide, fun r0 H1 _ _ k1 P1 => ⟨rfl, _, rfl, ite2 (fun _ => ?_) (fun _ => ?_)⟩⟩
    all_goals refine ⟨a, _, n + 1, rfl, P1, by omega, by decide, by decide, fun r H2 hr0 hr1 k2 P2 => ?_⟩
    all_goals refine ⟨_, _, rfl, rfl, ⟨_, rfl⟩, _, rfl, _, rfl, ?_, ?_, fun D nD => ?_⟩
    all_goals try (show -(2 ^ 62) ≤ (1 : Int) + r; omega)
    all_goals try (show (1 : Int) + r < 2 ^ 62; omega)
    all_goals
      have Da : a ≠ D := fun e => by
        obtain ⟨p', q', t', i', e', _⟩ := P2
        rw [← e, e'] at nD
        cases nD
      have hbig : (100 : Nat) < sizeLine := by rw [sizeLine_eq]; decide
      refine lc_range (lo := 0) (n := ((1 : Int) + r).toNat) (fun i H' => ∃ ys : List Str, ys.length = i ∧ (∀ y ∈ ys, y.length = 1) ∧ (∀ y ∈ ys, Letters y) ∧ Keep a H H' ∧ H' D = some (.lst (ys.map V.str)) ∧ Purse H' a (n + 2 + i)) ⟨[], rfl, by simp, by simp, (k1.trans k2).trans (same_upd nD).keep, upd_same, P2.same (same_upd nD)⟩ ?_ ?_
      · rintro i H3 hi ⟨ys, el, h1, hl, k3, eD, P3⟩
        have hi2 : i < 9 := by omega
        refine ⟨rfl, lc_turn ?_⟩
        refine ⟨.ref a, rfl, a, 26, n + 2 + i, rfl, P3, by omega, by decide, by decide, fun r4 H4 h40 h41 k4 P4 => ?_⟩
        have g : atI (Str.ofString "abcdefghijklmnopqrstuvwxyz").cps.toList r4 = some (97 + r4.toNat) := by
          have e4 : r4 = ((r4.toNat : Nat) : Int) := by omega
          have := atI_nat (xs := (Str.ofString "abcdefghijklmnopqrstuvwxyz").cps.toList) (j := r4.toNat) (abc r4.toNat (by omega))
          rw [← e4] at this
          exact this
        refine ⟨_, _, _, rfl, rfl, by decide +kernel, g, ys.map V.str, k4 _ _ Da.symm eD, ?_, ys ++ [⟨#[97 + r4.toNat]⟩], ?_, ?_, ?_, ?_, ?_, ?_⟩
        · rw [List.length_map]
          omega
        · rw [List.length_append, el]
          rfl
        · intro y hy
          rw [List.mem_append, List.mem_singleton] at hy
          rcases hy with hy | rfl
          · exact h1 y hy
          · rfl
        · intro y hy
          rw [List.mem_append, List.mem_singleton] at hy
          rcases hy with hy | rfl
          · exact hl y hy
          · intro c hc
            have hc2 : c = 97 + r4.toNat := by simpa using hc
            omega
        · intro b o hb hbo
          have hbD : b ≠ D := fun e => by
            have z := k1.trans k2 b o hb hbo
            rw [e, nD] at z
            cases z
          rw [upd_ne hbD]
          exact k4 _ _ hb (k3 _ _ hb hbo)
        · rw [upd_same, List.map_append]
          rfl
        · exact (P4.more (by omega)).keep keep_upd Da
      · rintro H3 ⟨ys, el, h1, hl, k3, eD, P3⟩
        obtain ⟨j1, j2⟩ := join_ones h1 hl
        refine ⟨_, D, ys, rfl, rfl, .inl (SqL.of eD), ?_, q _ _ ?_ ?_ j2 k3 (P3.more (by omega))⟩
        · rw [ones_sum ys h1, show (Str.ofString "").length = 0 from rfl]
          omega
        · show 1 ≤ (Txt.join "" ys).length
          omega
        · show (Txt.join "" ys).length ≤ 8
          omega
end
end LW

set_option Elab.async false
set_option linter.all false
set_option maxRecDepth 100000
set_option maxHeartbeats 4000000
/-! k02: which objects are tokens -/
namespace K2
open PySem PySem.Spec PyProof.Rows L2 EL LW
open Ln (L isLet isFig isRun isWord isSign isNum isQuoted isTok)
open PySem.EV (ErrC ErrI)
abbrev sRun : Stmt := topS 8
abbrev sIsWord : Stmt := topS 9
abbrev sIsSign : Stmt := topS 11
abbrev sIsNum : Stmt := topS 12
abbrev sIsQuoted : Stmt := topS 13
abbrev sIsToken : Stmt := topS 62
abbrev sIsText : Stmt := topS 64
abbrev sReqText : Stmt := topS 65
theorem scRun : FnScope ["value"] ["value"] (defScope sRun) := ⟨rfl, rfl, rfl, by decide +kernel, rfl, by decide +kernel, by decide +kernel⟩
theorem scIsWord : FnScope ["value"] ["value"] (defScope sIsWord) := ⟨rfl, rfl, rfl, by decide +kernel, rfl, by decide +kernel, by decide +kernel⟩
theorem scIsSign : FnScope ["value"] ["value"] (defScope sIsSign) := ⟨rfl, rfl, rfl, by decide +kernel, rfl, by decide +kernel, by decide +kernel⟩
theorem scIsNum : FnScope ["value"] ["value"] (defScope sIsNum) := ⟨rfl, rfl, rfl, by decide +kernel, rfl, by decide +kernel, by decide +kernel⟩
theorem scIsQuoted : FnScope ["value"] ["value"] (defScope sIsQuoted) := ⟨rfl, rfl, rfl, by decide +kernel, rfl, by decide +kernel, by decide +kernel⟩
theorem scIsToken : FnScope ["value"] ["value"] (defScope sIsToken) := ⟨rfl, rfl, rfl, by decide +kernel, rfl, by decide +kernel, by decide +kernel⟩
theorem scIsText : FnScope ["value", "token"] ["value"] (defScope sIsText) := ⟨rfl, rfl, rfl, by decide +kernel, rfl, by decide +kernel, by decide +kernel⟩
theorem scReqText : FnScope ["text"] ["text"] (defScope sReqText) := ⟨rfl, rfl, rfl, by decide +kernel, rfl, by decide +kernel, by decide +kernel⟩
theorem boot_isi : bootBuiltins (Str.ofString "isinstance") = some (.builtin "isinstance") := by decide +kernel
theorem boot_all : bootBuiltins (Str.ofString "all") = some (.builtin "all") := by decide +kernel
theorem boot_str : bootBuiltins (Str.ofString "str") = some (.type "str") := by decide +kernel
theorem boot_list : bootBuiltins (Str.ofString "list") = some (.type "list") := by decide +kernel
theorem sz (n : Nat) (h : n ≤ 100000) : n ≤ sizeLine := Nat.le_trans h (by rw [sizeLine_eq]; decide)
/-! ### readings that give a value of a kind, the heap grown -/
def Gives (t : TE) (σ : L2.St) (H : Hp) (R : V → Prop) : Prop := ∀ Q : VK, (∀ v H', Same H H' → R v → Q v H') → t σ H Q
theorem Gives.var {σ : L2.St} {H : Hp} {i : Nat} {v : V} (h : σ[i]? = some (some v)) : Gives (tVar i) σ H (fun u => u = v) := fun Q q => ⟨v, h, q _ _ (Same.refl _) rfl⟩
section
variable {J : It} {n : Nat} {G : Hp → Prop} {Y : Nat → Hp → V → Hp → Prop}
/-- a comprehension whose turns leave all that is tracked -/
theorem lc_same (w : Walk J n G Y) {te : TE} {j : Nat} {vs : List Nat} {σ : L2.St} {H1 : Hp} {D : Addr} {Qd : Hp → Prop} (nD : H1 D = none) (ys : List V) (hl : ys.length = n) (hz : n ≤ sizeLine) (hG : ∀ H, Same H1 H → G H)
    (hs : ∀ i x H H', i < n → Same H1 H → Y i H x H' → Same H H' ∧ wipe ((wipe σ vs).set j (some x)) vs = wipe σ vs ∧ Gives te ((wipe σ vs).set j (some x)) H' (fun y => ys[i]? = some y))
    (hd : ∀ H, Same H1 H → H D = some (.lst ys) → Qd H) :
    ∃ W : Nat → Nat → Hp → Prop, (∃ m, W 0 m (upd H1 D (.lst []))) ∧ ∀ i m H, W i m H →
      (J.stop i H ∧ Qd H) ∨ (J.go i H ∧ ∃ Nx : Hp → Prop, (∀ H', Nx H' → ∃ m', m' < m ∧ W (i + 1) m' H') ∧ ∀ x H', J.yld i H x H' → gName j x (wipe σ vs) H' fun σ2 H2 => wipe σ2 vs = wipe σ vs ∧ tYes σ2 H2 fun b H3 =>
        if b = true then te σ2 H3 fun y H4 => ∃ acc, H4 D = some (.lst acc) ∧ acc.length < sizeLine ∧ Nx (upd H4 D (.lst (acc ++ [y]))) else Nx H3) := by
  refine lc_it w (fun i H => Same H1 H ∧ H D = some (.lst (ys.take i))) ⟨same_upd nD, by rw [upd_same]; rfl⟩ (fun i H _ h => hG H h.1) ?_ fun H h => hd H h.1 (by rw [h.2, List.take_of_length_le (by omega)])
  rintro i x H H' hi ⟨s1, eD⟩ y
  obtain ⟨s2, hw, gv⟩ := hs i x H H' hi s1 y
  refine ⟨hw, lc_turn ?_⟩
  refine gv _ fun v H4 s4 hv => ⟨_, (s2.trans s4) _ _ eD, ?_, fun b o hb => ?_, ?_⟩
  · rw [List.length_take]
    omega
  · rw [upd_ne (ne_of_none hb nD)]
    exact (s2.trans s4) _ _ (s1 _ _ hb)
  · rw [upd_same]
    have h1 : i < ys.length := by omega
    have e : ys[i] = v := by
      rw [List.getElem?_eq_getElem h1] at hv
      exact Option.some.inj hv
    rw [List.take_succ_eq_append_getElem h1, e]
end
/-! ### values: a text, or no text -/
def cp (x : Str) : L := x.cps.toList
def NoS (K : PySem.W.Frag) (H : Hp) (v : V) : Prop := (∀ x, v ≠ .str x) ∧ ∃ t, PySem.W.kitOne K t (.type "str") = some false ∧ ∀ H', Same H H' → TyX K H' v t
def Plain (K : PySem.W.Frag) (H : Hp) (v : V) : Prop := (∃ x, v = .str x ∧ x.length ≤ 100000) ∨ NoS K H v
theorem Plain.same {K : PySem.W.Frag} {H H' : Hp} {v : V} (h : Plain K H v) (s : Same H H') : Plain K H' v := h.imp id fun ⟨a, t, b, c⟩ => ⟨a, t, b, fun H2 s2 => c H2 (s.trans s2)⟩
def ofS (f : L → Bool) : V → Bool
  | .str x => f (cp x)
  | _ => false
theorem ofS_no {K : PySem.W.Frag} {H : Hp} {v : V} (h : NoS K H v) (f : L → Bool) : ofS f v = false := by
  cases v with
  | str x => exact absurd rfl (h.1 x)
  | _ => rfl
def letS : Str := Str.ofString "abcdefghijklmnopqrstuvwxyz"
def figS : Str := Str.ofString "0123456789"
def sgnS : Str := Str.ofString "+-*/<>=.,;:!?&|@^~[]{}"
theorem mem_let (c : Nat) : decide (c ∈ letS.cps.toList) = isLet c := by
  have e : letS.cps.toList = List.range' 97 26 := by decide +kernel
  rw [e, Bool.eq_iff_iff, decide_eq_true_iff, List.mem_range'_1]
  unfold isLet
  simp
  omega
theorem mem_fig (c : Nat) : decide (c ∈ figS.cps.toList) = isFig c := by
  have e : figS.cps.toList = List.range' 48 10 := by decide +kernel
  rw [e, Bool.eq_iff_iff, decide_eq_true_iff, List.mem_range'_1]
  unfold isFig
  simp
  omega
theorem mem_sgn (c : Nat) : decide (c ∈ sgnS.cps.toList) = Ln.signs.contains c := by
  have e : sgnS.cps.toList = Ln.signs := by decide +kernel
  rw [e, Bool.eq_iff_iff, decide_eq_true_iff, List.contains_iff_mem]
section
variable {P : Program} {w : World} {K : PySem.W.Frag} {mg : Str → Option Value} {base : Heap}
/-- isinstance(value, str) -/
theorem isi_str {x : Str} {H : Hp} {Q : VK} (q : Q (.bl true) H) : rIsi K [.str x, .ty "str"] H Q := ⟨_, _, _, _, true, rfl, ClsV.ty _, .base (.str x), kit_ty (by decide +kernel), q⟩
theorem isi_no {v : V} {H H' : Hp} {Q : VK} (h : NoS K H v) (s : Same H H') (q : Q (.bl false) H') : rIsi K [v, .ty "str"] H' Q := by
  obtain ⟨_, t, k, ty⟩ := h
  exact ⟨_, _, t, _, false, rfl, ClsV.ty _, ty _ s, k, q⟩
/-- a judge of tokens -/
def spTok (K : PySem.W.Frag) (f : L → Bool) : Sp := fun vs H Q _ => ∃ v : V, vs = [v] ∧ Plain K H v ∧ ∀ H', Same H H' → Q (.bl (ofS f v)) H'
def isAsc (c : Nat) : Bool := decide (c < 128)
theorem all_cps (x : Str) (p : Nat → Bool) : x.cps.all p = (cp x).all p := by
  unfold cp
  rw [Array.all_toList]
theorem any_cps (x : Str) (p : Nat → Bool) : x.cps.any p = (cp x).any p := by
  unfold cp
  rw [Array.any_toList]
theorem ok_run {f : Addr} {fd : FuncData} {t : Tok} (F : Fun K "is_run" "is_run" sRun f fd) (mis : mg "isinstance" = none) (mst : mg "str" = none) (ml : mg "len" = none) (mM : mg "MOST_SIGNS" = some (.int 8 t)) :
    FnOk P w K mg base CX0 1 f fd ["value"] (spTok K (isRun isAsc)) := by
  refine F.ok scRun (fun vs H Q E h => ?_) (fun cdv A outer s H vs Q E hr h => ?_)
  · obtain ⟨v, rfl, _⟩ := h
    rfl
  · obtain ⟨v, rfl, hv, q⟩ := h
    have nd := scRun.nd
    refine ⟨_, pss_one (ps_ret (pe_and (pe_callB call_isi (by rfl) mis boot_isi (pa_cons (pv 0) (pa_cons (pe_bltn (v := .ty "str") (by rfl) mst boot_str rfl) pa_nil)))
      (pe_and (pe_chain op_le op_le pe_int (pe_callB call_len_str (by rfl) ml PySem.boot_len (pa_cons (pv 0) pa_nil)) (pe_glob (v := .int 8) (by rfl) mM ⟨_, rfl⟩)) (pe_one (pe_m0 PySem.F.slot_str_isascii PySem.F.type_str_isascii mt_isascii (pv 0)))))), ?_⟩
    rcases hv with ⟨x, rfl, hz⟩ | hv
    · have hz' := sz _ hz
      refine ⟨.str x, rfl, _, _, _, _, true, rfl, ClsV.ty _, .base (.str x), kit_ty (by decide +kernel), true, rfl, iteT ?_⟩
      have hl : (cp x).length = x.length := Array.length_toList ..
      have qf : isRun isAsc (cp x) = false → Q (.bl false) H := fun e => by
        have := q H (Same.refl H)
        rw [show ofS (isRun isAsc) (.str x) = isRun isAsc (cp x) from rfl, e] at this
        exact this
      refine ⟨.str x, rfl, x, rfl, hz', _, _, rfl, rfl, _, rfl, ite2 (fun c1 => ?_) (fun c1 => ?_)⟩
      · refine ⟨_, _, rfl, rfl, _, rfl, ite2 (fun c2 => ?_) (fun c2 => ?_)⟩
        · refine ⟨.str x, rfl, ⟨x, rfl⟩, x, rfl, rfl, True.intro, ?_⟩
          have h1 : 1 ≤ x.length := by
            have := of_decide_eq_true c1
            omega
          have h2 : x.length ≤ 8 := by
            have := of_decide_eq_true c2
            omega
          have e : ofS (isRun isAsc) (.str x) = Txt.isascii x := by
            show isRun isAsc (cp x) = x.cps.all _
            unfold isRun
            rw [hl, decide_eq_true h1, decide_eq_true h2, all_cps]
            rfl
          have := q H (Same.refl H)
          rw [e] at this
          exact this
        · refine qf ?_
          unfold isRun
          have : ¬ x.length ≤ 8 := fun h => c2 (decide_eq_true (by omega))
          rw [hl, decide_eq_false this, Bool.and_false, Bool.false_and]
      · refine ⟨_, rfl, iteF (qf ?_)⟩
        have : ¬ 1 ≤ x.length := fun h => c1 (decide_eq_true (by omega))
        unfold isRun
        rw [hl, decide_eq_false this, Bool.false_and, Bool.false_and]
    · obtain ⟨t0, k0, ty0⟩ := hv.2
      refine ⟨v, rfl, _, _, t0, _, false, rfl, ClsV.ty _, ty0 _ (Same.refl _), k0, false, rfl, iteF ?_⟩
      have := q H (Same.refl H)
      rw [ofS_no hv] at this
      exact this
end
end K2

set_option Elab.async false
set_option linter.all false
set_option maxRecDepth 100000
set_option maxHeartbeats 4000000
/-! k02: words, signs, numbers, quoted words, tokens, texts -/
namespace K2
open PySem PySem.Spec PyProof.Rows L2 EL LW
open Ln (L isLet isFig isRun isWord isSign isNum isQuoted isTok)
open PySem.EV (ErrC ErrI)
/-! ### texts by their code points -/
theorem cp_inj {x y : Str} (h : cp x = cp y) : x = y := by
  cases x; cases y
  congr 1
  exact Array.toList_inj.mp h
theorem dec_str (x y : Str) : decide (V.str x = V.str y) = decide (cp x = cp y) := by
  rw [Bool.eq_iff_iff, decide_eq_true_iff, decide_eq_true_iff]
  exact ⟨fun h => by cases h; rfl, fun h => by rw [cp_inj h]⟩
theorem cp_len (x : Str) : (cp x).length = x.length := Array.length_toList ..
theorem cut_take {x : Str} {k : Nat} (h : k ≤ x.length) : cp (cutS x none (some (k : Int))) = (cp x).take k := by
  unfold cutS cp
  rw [HT.sIx_none, HT.sIx_nat, Nat.min_eq_left h]
  simp
theorem cut_take' (x : Str) (k : Nat) : cp (cutS x none (some (k : Int))) = (cp x).take k := by
  unfold cutS cp
  rw [HT.sIx_none, HT.sIx_nat]
  simp only [Nat.sub_zero, List.drop_zero]
  rcases Nat.le_total k x.length with h | h
  · rw [Nat.min_eq_left h]
  · have e : x.cps.toList.length = x.length := cp_len x
    rw [Nat.min_eq_right h, List.take_of_length_le (by omega), List.take_of_length_le (by omega)]
theorem cut_drop (x : Str) (k : Nat) : cp (cutS x (some (k : Int)) none) = (cp x).drop k := by
  unfold cutS cp
  rw [HT.sIx_none, HT.sIx_nat]
  have e : x.cps.toList.length = x.length := cp_len x
  rcases Nat.le_total k x.length with h | h
  · rw [Nat.min_eq_left h]
    show (x.cps.toList.drop k).take (x.length - k) = _
    rw [List.take_of_length_le (by rw [List.length_drop]; omega)]
  · rw [Nat.min_eq_right h]
    show (x.cps.toList.drop x.length).take _ = _
    rw [List.drop_of_length_le (by omega), List.drop_of_length_le (by omega)]
    simp
theorem cut_mid (x : Str) (i j : Nat) (h : i ≤ j) : cp (cutS x (some (i : Int)) (some (j : Int))) = ((cp x).drop i).take (j - i) := by
  unfold cutS cp
  rw [HT.sIx_nat, HT.sIx_nat]
  have e : x.cps.toList.length = x.length := cp_len x
  show (x.cps.toList.drop (min i x.length)).take (min j x.length - min i x.length) = _
  rcases Nat.le_total i x.length with h1 | h1
  · rw [Nat.min_eq_left h1]
    rcases Nat.le_total j x.length with h2 | h2
    · rw [Nat.min_eq_left h2]
    · rw [Nat.min_eq_right h2, List.take_of_length_le (by rw [List.length_drop]; omega), List.take_of_length_le (by rw [List.length_drop]; omega)]
  · rw [Nat.min_eq_right h1, List.drop_of_length_le (by omega), List.drop_of_length_le (by omega)]
    simp
theorem cut_le (x : Str) (lo hi : Option Int) : (cutS x lo hi).length ≤ x.length := by
  rw [← cp_len, ← cp_len]
  show ((x.cps.toList.drop _).take _).length ≤ _
  rw [List.length_take, List.length_drop]
  show _ ≤ x.cps.toList.length
  omega
theorem one_sign {x : Str} (h : x.length = 1) : ∃ c, x = ⟨#[c]⟩ ∧ cp x = [c] := by
  have e := cp_len x
  rw [h] at e
  match q : cp x, e with
  | [c], _ => exact ⟨c, cp_inj (by rw [q]; rfl), rfl⟩
theorem num_str : ∀ {v : V} {f : L → Bool}, ofS f v = true → ∃ x, v = .str x ∧ f (cp x) = true
  | .str x, f, h => ⟨x, rfl, h⟩
  | .non, _, h => by cases h
  | .bl _, _, h => by cases h
  | .int _, _, h => by cases h
  | .ref _, _, h => by cases h
  | .byt _, _, h => by cases h
  | .flt _, _, h => by cases h
  | .ty _, _, h => by cases h
/-! ### letters and figures among the signs below 128 -/
def isCap (c : Nat) : Bool := decide (65 ≤ c) && decide (c ≤ 90)
theorem asc_alpha : ∀ c < 128, Unicode.isAlpha c = (isLet c || isCap c) := by decide +kernel
theorem asc_lower : ∀ c < 128, Unicode.isLower c = isLet c := by decide +kernel
theorem asc_upper : ∀ c < 128, (Unicode.isUpper c || Unicode.isTitle c) = isCap c := by decide +kernel
theorem asc_digit : ∀ c < 128, Unicode.isDigit c = isFig c := by decide +kernel
theorem cap_let : ∀ c < 128, isCap c = true → isLet c = false := by decide +kernel
theorem let_asc {c : Nat} (h : isLet c = true) : isAsc c = true := by
  unfold isLet at h
  unfold isAsc
  simp at h ⊢
  omega
theorem fig_asc {c : Nat} (h : isFig c = true) : isAsc c = true := by
  unfold isFig at h
  unfold isAsc
  simp at h ⊢
  omega
theorem run_asc {p : Nat → Bool} (hp : ∀ c, p c = true → isAsc c = true) {l : L} (h : isRun p l = true) : isRun isAsc l = true := by
  unfold isRun at h ⊢
  simp only [Bool.and_eq_true, decide_eq_true_eq, List.all_eq_true] at h ⊢
  exact ⟨h.1, fun c hc => hp c (h.2 c hc)⟩
theorem all_cong {p r : Nat → Bool} {l : L} (h : ∀ c ∈ l, p c = r c) : l.all p = l.all r := by
  induction l with
  | nil => rfl
  | cons c l ih => rw [List.all_cons, List.all_cons, h c List.mem_cons_self, ih fun d hd => h d (List.mem_cons_of_mem _ hd)]
theorem any_cong {p r : Nat → Bool} {l : L} (h : ∀ c ∈ l, p c = r c) : l.any p = l.any r := by
  induction l with
  | nil => rfl
  | cons c l ih => rw [List.any_cons, List.any_cons, h c List.mem_cons_self, ih fun d hd => h d (List.mem_cons_of_mem _ hd)]
theorem run_parts {x : Str} (h : isRun isAsc (cp x) = true) : 1 ≤ x.length ∧ (∀ c ∈ cp x, c < 128) ∧ ∀ p, isRun p (cp x) = (cp x).all p := by
  have h2 := h
  unfold isRun at h2
  simp only [Bool.and_eq_true, decide_eq_true_eq, List.all_eq_true, isAsc] at h2
  have hl : (cp x).length = x.length := Array.length_toList ..
  refine ⟨by omega, h2.2, fun p => ?_⟩
  unfold isRun
  rw [decide_eq_true h2.1.1, decide_eq_true h2.1.2]
  rfl
theorem word_asc {x : Str} (h : isRun isAsc (cp x) = true) : isWord (cp x) = (Txt.isalpha x && Txt.islower x) := by
  obtain ⟨h1, h2, h3⟩ := run_parts h
  have e1 : Txt.isalpha x = (cp x).all fun c => isLet c || isCap c := by
    show (decide (x.length > 0) && x.cps.all Unicode.isAlpha) = _
    rw [decide_eq_true (show x.length > 0 from h1), Bool.true_and, all_cps]
    exact all_cong fun c hc => asc_alpha c (h2 c hc)
  have e2 : Txt.islower x = ((cp x).any isLet && !(cp x).any isCap) := by
    show (x.cps.any Unicode.isLower && !x.cps.any fun c => Unicode.isUpper c || Unicode.isTitle c) = _
    rw [any_cps, any_cps, any_cong fun c hc => asc_lower c (h2 c hc), any_cong fun c hc => asc_upper c (h2 c hc)]
  have hl : (cp x).length = x.length := Array.length_toList ..
  show isRun isLet (cp x) = _
  rw [h3, e1, e2, Bool.eq_iff_iff]
  generalize cp x = l at *
  constructor
  · intro ha
    rw [List.all_eq_true] at ha
    rw [Bool.and_eq_true, Bool.and_eq_true, List.all_eq_true, List.any_eq_true, Bool.not_eq_true', List.any_eq_false]
    refine ⟨fun c hc => by rw [ha c hc]; rfl, ?_, fun c hc hcap => ?_⟩
    · cases l with
      | nil => simp at hl; omega
      | cons c l => exact ⟨c, List.mem_cons_self, ha c List.mem_cons_self⟩
    · have := cap_let c (h2 c hc) hcap
      rw [ha c hc] at this
      cases this
  · intro ha
    rw [Bool.and_eq_true, Bool.and_eq_true, List.all_eq_true, Bool.not_eq_true', List.any_eq_false] at ha
    rw [List.all_eq_true]
    intro c hc
    have a1 := ha.1 c hc
    have a2 := ha.2.2 c hc
    rw [Bool.or_eq_true] at a1
    exact a1.resolve_right a2
theorem num_asc {x : Str} (h : isRun isAsc (cp x) = true) : isRun isFig (cp x) = Txt.isdigit x := by
  obtain ⟨h1, h2, h3⟩ := run_parts h
  rw [h3]
  show _ = (decide (x.length > 0) && x.cps.all Unicode.isDigit)
  rw [decide_eq_true (show x.length > 0 from h1), Bool.true_and, all_cps]
  exact (all_cong fun c hc => asc_digit c (h2 c hc)).symm
section
variable {P : Program} {w : World} {K : PySem.W.Frag} {mg : Str → Option Value} {base : Heap} {C T I : Addr}
theorem ok_word' {f fR : Addr} {fd fdR : FuncData} (F : Fun K "is_word" "is_word" sIsWord f fd) (kR : PySem.W.keepIn K (.ref fR) = true) (GR : FnOk P w K mg base CX0 1 fR fdR ["value"] (spTok K (isRun isAsc))) (bR : Binds K fdR ["value"] []) (gR : mg "is_run" = some (.ref fR)) :
    FnOk P w K mg base CX0 2 f fd ["value"] (spTok K isWord) := by
  refine F.ok scIsWord (fun vs H Q E h => ?_) (fun cdv A outer s H vs Q E hr h => ?_)
  · obtain ⟨v, rfl, _⟩ := h
    rfl
  · obtain ⟨v, rfl, hv, q⟩ := h
    refine ⟨_, pss_one (ps_ret (pe_and (pe_call GR hr (by rfl) gR kR bR .nil pass0 (pa_cons (pv 0) pa_nil))
      (pe_and (pe_m0 PySem.F.slot_str_isalpha PySem.F.type_str_isalpha mt_isalpha (pv 0)) (pe_one (pe_m0 PySem.F.slot_str_islower PySem.F.type_str_islower mt_islower (pv 0)))))), ?_⟩
    refine ⟨v, rfl, v, rfl, hv, fun H1 s1 => ⟨_, rfl, ite2 (fun c => ?_) (fun c => ?_)⟩⟩
    · obtain ⟨x, rfl, hx⟩ := num_str c
      have q1 := q H1 s1
      rw [show ofS isWord (.str x) = isWord (cp x) from rfl, word_asc hx] at q1
      refine ⟨.str x, rfl, ⟨x, rfl⟩, x, rfl, rfl, True.intro, _, rfl, ite2 (fun c1 => ?_) (fun c1 => ?_)⟩
      · rw [c1, Bool.true_and] at q1
        exact ⟨.str x, rfl, ⟨x, rfl⟩, x, rfl, rfl, True.intro, q1⟩
      · have c2 : Txt.isalpha x = false := by simpa using c1
        rw [c2, Bool.false_and] at q1
        exact q1
    · have q1 := q H1 s1
      have e2 : ofS isWord v = false := by
        cases hb : ofS isWord v with
        | false => rfl
        | true =>
          obtain ⟨x, rfl, hx⟩ := num_str hb
          exact absurd (run_asc (fun c hc => let_asc hc) hx) c
      rw [e2] at q1
      exact q1
theorem ok_sign {f : Addr} {fd : FuncData} {t : Tok} (F : Fun K "is_sign" "is_sign" sIsSign f fd) (mis : mg "isinstance" = none) (mst : mg "str" = none) (ml : mg "len" = none) (mS : mg "SIGNS" = some (.str sgnS t)) : FnOk P w K mg base CX0 1 f fd ["value"] (spTok K isSign) := by
  refine F.ok scIsSign (fun vs H Q E h => ?_) (fun cdv A outer s H vs Q E hr h => ?_)
  · obtain ⟨v, rfl, _⟩ := h
    rfl
  · obtain ⟨v, rfl, hv, q⟩ := h
    refine ⟨_, pss_one (ps_ret (pe_and (pe_callB call_isi (by rfl) mis boot_isi (pa_cons (pv 0) (pa_cons (pe_bltn (v := .ty "str") (by rfl) mst boot_str rfl) pa_nil)))
      (pe_and (pe_cmpR op_eq (pe_callB call_len_str (by rfl) ml PySem.boot_len (pa_cons (pv 0) pa_nil)) pe_int (nomark _)) (pe_one (pe_cmpR op_in_sign (pv 0) (pe_glob (v := .str sgnS) (by rfl) mS ⟨_, rfl⟩) (by rfl)))))), ?_⟩
    rcases hv with ⟨x, rfl, hz⟩ | hv
    · have hz' := sz _ hz
      refine ⟨.str x, rfl, _, _, _, _, true, rfl, ClsV.ty _, .base (.str x), kit_ty (by decide +kernel), true, rfl, iteT ?_⟩
      refine ⟨.str x, rfl, x, rfl, hz', rfl, _, rfl, ite2 (fun c => ?_) (fun c => ?_)⟩
      · have e1 : x.length = 1 := by
          have e := of_decide_eq_true c
          injection e with e
          omega
        obtain ⟨d, rfl, ed⟩ := one_sign e1
        refine ⟨_, rfl, d, sgnS, rfl, rfl, ?_⟩
        rw [mem_sgn]
        have := q H (Same.refl H)
        have e : ofS isSign (.str ⟨#[d]⟩) = Ln.signs.contains d := by
          show isSign (cp ⟨#[d]⟩) = _
          rw [ed]
          unfold isSign
          simp
        rw [e] at this
        exact this
      · have := q H (Same.refl H)
        have e : ofS isSign (.str x) = false := by
          show isSign (cp x) = false
          unfold isSign
          rw [cp_len]
          have : ¬ x.length = 1 := fun h => c (decide_eq_true (by rw [h]; rfl))
          rw [decide_eq_false this, Bool.false_and]
        rw [e] at this
        exact this
    · obtain ⟨t0, k0, ty0⟩ := hv.2
      refine ⟨v, rfl, _, _, t0, _, false, rfl, ClsV.ty _, ty0 _ (Same.refl _), k0, false, rfl, iteF ?_⟩
      have := q H (Same.refl H)
      rw [ofS_no hv] at this
      exact this
theorem plain_len {H : Hp} {x : Str} (h : Plain K H (.str x)) : x.length ≤ 100000 := by
  rcases h with ⟨y, e, hz⟩ | h
  · cases e
    exact hz
  · exact absurd rfl (h.1 x)
theorem ok_num {f fR : Addr} {fd fdR : FuncData} (F : Fun K "is_number" "is_number" sIsNum f fd) (kR : PySem.W.keepIn K (.ref fR) = true) (GR : FnOk P w K mg base CX0 1 fR fdR ["value"] (spTok K (isRun isAsc))) (bR : Binds K fdR ["value"] []) (gR : mg "is_run" = some (.ref fR)) :
    FnOk P w K mg base CX0 2 f fd ["value"] (spTok K isNum) := by
  refine F.ok scIsNum (fun vs H Q E h => ?_) (fun cdv A outer s H vs Q E hr h => ?_)
  · obtain ⟨v, rfl, _⟩ := h
    rfl
  · obtain ⟨v, rfl, hv, q⟩ := h
    refine ⟨_, pss_one (ps_ret (pe_and (pe_call GR hr (by rfl) gR kR bR .nil pass0 (pa_cons (pv 0) pa_nil))
      (pe_and (pe_m0 PySem.F.slot_str_isdigit PySem.F.type_str_isdigit mt_isdigit (pv 0))
      (pe_one (pe_or (pe_cmpR op_eq (pv 0) pe_str (nomark _)) (pe_one (pe_cmpR op_ne (pe_ix ix_str (pv 0) pe_int (fun _ _ => rfl)) pe_str (nomark _)))))))), ?_⟩
    have no : ∀ H1, Same H H1 → (∀ x, v = .str x → isRun isFig (cp x) = false) → Q (.bl false) H1 := fun H1 s1 hn => by
      have q1 := q H1 s1
      have e2 : ofS isNum v = false := by
        cases hb : ofS isNum v with
        | false => rfl
        | true =>
          obtain ⟨x, rfl, hx⟩ := num_str hb
          unfold isNum at hx
          simp only [Bool.and_eq_true] at hx
          rw [hn x rfl] at hx
          cases hx.1
      rw [e2] at q1
      exact q1
    refine ⟨v, rfl, v, rfl, hv, fun H1 s1 => ⟨_, rfl, ite2 (fun c0 => ?_) (fun c0 => ?_)⟩⟩
    rotate_left
    · refine no H1 s1 fun x e => ?_
      subst e
      cases hb : isRun isFig (cp x) with
      | false => rfl
      | true => exact absurd (run_asc (fun c hc => fig_asc hc) hb) c0
    obtain ⟨x, rfl, hx0⟩ := num_str c0
    refine ⟨.str x, rfl, ⟨x, rfl⟩, x, rfl, rfl, True.intro, _, rfl, ite2 (fun c => ?_) (fun c => ?_)⟩
    · have hx : isRun isFig (cp x) = true := by rw [num_asc hx0]; exact c
      have hz' := sz _ (plain_len hv)
      have q1 := q H1 s1
      have hx2 := hx
      unfold isRun at hx2
      simp only [Bool.and_eq_true, decide_eq_true_eq] at hx2
      obtain ⟨⟨h1, h8⟩, _⟩ := hx2
      refine ⟨.str x, rfl, rfl, _, rfl, ite2 (fun c1 => ?_) (fun c1 => ?_)⟩
      · have e : cp x = [48] := by
          have z : decide (cp x = cp "0") = true := by rw [← dec_str]; exact c1
          exact of_decide_eq_true z
        have e2 : ofS isNum (.str x) = true := by
          show isNum (cp x) = true
          unfold isNum
          rw [hx, e]
          rfl
        rw [e2] at q1
        exact q1
      · match ex : cp x, h1 with
        | d :: ds, _ =>
          refine ⟨.str x, rfl, x, 0, d, rfl, rfl, hz', ?_, rfl, ?_⟩
          · show atI (cp x) 0 = some d
            rw [ex]
            exact atI_nat (j := 0) rfl
          · rw [dec_str]
            have e2 : ofS isNum (.str x) = !decide (cp (⟨#[d]⟩ : Str) = cp "0") := by
              show isNum (cp x) = _
              unfold isNum
              rw [hx, ex]
              have n1 : (d :: ds == [48]) = false := by
                have z : ¬ cp x = [48] := fun e => c1 (by rw [dec_str]; exact decide_eq_true e)
                rw [ex] at z
                simpa using z
              rw [n1]
              show (true && (false || !(d == 48))) = !decide ([d] = [48])
              simp [Bool.beq_eq_decide_eq]
            rw [e2] at q1
            exact q1
    · refine no H1 s1 fun y e => ?_
      cases e
      rw [num_asc hx0]
      simpa using c
theorem ok_quoted {f fW : Addr} {fd fdW : FuncData} {t : Tok} (F : Fun K "is_quoted" "is_quoted" sIsQuoted f fd) (kW : PySem.W.keepIn K (.ref fW) = true) (GW : FnOk P w K mg base CX0 2 fW fdW ["value"] (spTok K isWord)) (bW : Binds K fdW ["value"] []) (gW : mg "is_word" = some (.ref fW))
    (mis : mg "isinstance" = none) (mst : mg "str" = none) (mQ : mg "QUOTE" = some (.str "'" t)) : FnOk P w K mg base CX0 3 f fd ["value"] (spTok K isQuoted) := by
  refine F.ok scIsQuoted (fun vs H Q E h => ?_) (fun cdv A outer s H vs Q E hr h => ?_)
  · obtain ⟨v, rfl, _⟩ := h
    rfl
  · obtain ⟨v, rfl, hv, q⟩ := h
    refine ⟨_, pss_one (ps_ret (pe_and (pe_callB call_isi (by rfl) mis boot_isi (pa_cons (pv 0) (pa_cons (pe_bltn (v := .ty "str") (by rfl) mst boot_str rfl) pa_nil)))
      (pe_and (pe_cmpR op_eq (pe_slice sl_str (pv 0) po_none (po_some pe_int)) (pe_glob (v := .str "'") (by rfl) mQ ⟨_, rfl⟩) (nomark _)) (pe_one (pe_call GW hr (by rfl) gW kW bW .nil pass0 (pa_cons (pe_slice sl_str (pv 0) (po_some pe_int) po_none) pa_nil)))))), ?_⟩
    rcases hv with ⟨x, rfl, hz⟩ | hv
    · have hz' := sz _ hz
      refine ⟨.str x, rfl, _, _, _, _, true, rfl, ClsV.ty _, .base (.str x), kit_ty (by decide +kernel), true, rfl, iteT ?_⟩
      refine ⟨.str x, rfl, 1, rfl, x, rfl, hz', rfl, _, rfl, ite2 (fun c => ?_) (fun c => ?_)⟩
      · refine ⟨.str x, rfl, 1, rfl, x, rfl, hz', _, rfl, .inl ⟨_, rfl, Nat.le_trans (cut_le _ _ _) hz⟩, fun H1 s1 => ?_⟩
        have q1 := q H1 s1
        have e : ofS isQuoted (.str x) = ofS isWord (.str (cutS x (some 1) none)) := by
          show isQuoted (cp x) = isWord (cp _)
          unfold isQuoted
          have e1 : cp (cutS x (some 1) none) = (cp x).drop 1 := cut_drop x 1
          rw [dec_str] at c
          have c2 := of_decide_eq_true c
          have e2 : cp (cutS x none (some 1)) = (cp x).take 1 := cut_take' x 1
          rw [e2] at c2
          rw [e1, c2]
          have : (cp "'" == [39]) = true := by decide +kernel
          rw [this, Bool.true_and]
        rw [e] at q1
        exact q1
      · have q1 := q H (Same.refl H)
        have e : ofS isQuoted (.str x) = false := by
          show isQuoted (cp x) = false
          unfold isQuoted
          have e2 : cp (cutS x none (some 1)) = (cp x).take 1 := cut_take' x 1
          have n : ¬ (cp x).take 1 = cp "'" := fun z => c (by rw [dec_str, e2]; exact decide_eq_true z)
          have e3 : cp "'" = [39] := by decide +kernel
          rw [e3] at n
          have : ((cp x).take 1 == [39]) = false := by simpa using n
          rw [this, Bool.false_and]
        rw [e] at q1
        exact q1
    · obtain ⟨t0, k0, ty0⟩ := hv.2
      refine ⟨v, rfl, _, _, t0, _, false, rfl, ClsV.ty _, ty0 _ (Same.refl _), k0, false, rfl, iteF ?_⟩
      have := q H (Same.refl H)
      rw [ofS_no hv] at this
      exact this
end
end K2

set_option Elab.async false
set_option linter.all false
set_option maxRecDepth 100000
set_option maxHeartbeats 4000000
/-! k02: tokens, texts, what is refused -/
namespace K2
open PySem PySem.Spec PyProof.Rows L2 EL LW
open Ln (L isLet isFig isRun isWord isSign isNum isQuoted isTok)
open PySem.EV (ErrC ErrI)
/-- no list -/
def NoL (K : PySem.W.Frag) (H : Hp) (v : V) : Prop := ∃ t, PySem.W.kitOne K t (.type "list") = some false ∧ ∀ H', Same H H' → TyX K H' v t
/-- a list of objects, or no list; is it a text -/
def TxV (K : PySem.W.Frag) (H : Hp) (v : V) (b : Bool) : Prop := (∃ (a : Addr) (xs : List V), v = .ref a ∧ H a = some (.lst xs) ∧ xs.length ≤ 1000 ∧ (∀ x ∈ xs, Plain K H x) ∧ b = xs.all (ofS isTok)) ∨ (NoL K H v ∧ b = false)
theorem NoL.same {K : PySem.W.Frag} {H H' : Hp} {v : V} (h : NoL K H v) (s : Same H H') : NoL K H' v := by
  obtain ⟨t, a, b⟩ := h
  exact ⟨t, a, fun H2 s2 => b H2 (s.trans s2)⟩
theorem TxV.same {K : PySem.W.Frag} {H H' : Hp} {v : V} {b : Bool} (h : TxV K H v b) (s : Same H H') : TxV K H' v b := by
  rcases h with ⟨a, xs, e, h1, h2, h3, h4⟩ | ⟨h, e⟩
  · exact .inl ⟨a, xs, e, s _ _ h1, h2, fun x hx => (h3 x hx).same s, h4⟩
  · exact .inr ⟨h.same s, e⟩
section
variable {P : Program} {w : World} {K : PySem.W.Frag} {mg : Str → Option Value} {base : Heap} {C T I : Addr}
theorem plain_flat {K : PySem.W.Frag} {H : Hp} {x : Str} : flatV (.str x) = true := rfl
theorem ofS_or (v : V) (hv : ∃ x, v = .str x) : ofS isTok v = (inV v [.str "(", .str ")"] || ofS isWord v || ofS isSign v || ofS isNum v || ofS isQuoted v) := by
  obtain ⟨x, rfl⟩ := hv
  show isTok (cp x) = ((eqV (.str "(") (.str x) || (eqV (.str ")") (.str x) || false)) || isWord (cp x) || isSign (cp x) || isNum (cp x) || isQuoted (cp x))
  have h1 : ∀ y : Str, eqV (.str y) (.str x) = (cp x == cp y) := fun y => by
    show (y == x) = _
    rw [Bool.eq_iff_iff, beq_iff_eq, beq_iff_eq]
    exact ⟨fun e => by rw [e], fun e => (cp_inj e).symm⟩
  rw [h1, h1, Bool.or_false]
  have e1 : cp "(" = [40] := by decide +kernel
  have e2 : cp ")" = [41] := by decide +kernel
  rw [e1, e2]
  rfl
theorem ok_token {f fW fS fN fQ aB : Addr} {fd dW dS dN dQ : FuncData} (F : Fun K "is_token" "is_token" sIsToken f fd)
    (kW : PySem.W.keepIn K (.ref fW) = true) (GW : FnOk P w K mg base CX0 2 fW dW ["value"] (spTok K isWord)) (bW : Binds K dW ["value"] []) (gW : mg "is_word" = some (.ref fW))
    (kS : PySem.W.keepIn K (.ref fS) = true) (GS : FnOk P w K mg base CX0 1 fS dS ["value"] (spTok K isSign)) (bS : Binds K dS ["value"] []) (gS : mg "is_sign" = some (.ref fS))
    (kN : PySem.W.keepIn K (.ref fN) = true) (GN : FnOk P w K mg base CX0 2 fN dN ["value"] (spTok K isNum)) (bN : Binds K dN ["value"] []) (gN : mg "is_number" = some (.ref fN))
    (kQ : PySem.W.keepIn K (.ref fQ) = true) (GQ : FnOk P w K mg base CX0 3 fQ dQ ["value"] (spTok K isQuoted)) (bQ : Binds K dQ ["value"] []) (gQ : mg "is_quoted" = some (.ref fQ))
    (mis : mg "isinstance" = none) (mst : mg "str" = none) (mB : mg "BRACKETS" = some (.ref aB)) (hB : ∀ H : Hp, SqT K H aB [.str "(", .str ")"]) : FnOk P w K mg base CX0 4 f fd ["value"] (spTok K isTok) := by
  refine F.ok scIsToken (fun vs H Q E h => ?_) (fun cdv A outer s H vs Q E hr h => ?_)
  · obtain ⟨v, rfl, _⟩ := h
    rfl
  · obtain ⟨v, rfl, hv, q⟩ := h
    refine ⟨_, pss_cons (ps_if (pt_not (pt_val (pe_callB call_isi (by rfl) mis boot_isi (pa_cons (pv 0) (pa_cons (pe_bltn (v := .ty "str") (by rfl) mst boot_str rfl) pa_nil))))) (pss_one (ps_ret pe_bl)) pss_nil)
      (pss_one (ps_ret (pe_or (pe_cmpR op_in_seq (pv 0) (pe_glob (v := .ref aB) (by rfl) mB rfl) (by rfl))
        (pe_or (pe_call GW (hr.mono (by decide)) (by rfl) gW kW bW .nil pass0 (pa_cons (pv 0) pa_nil))
        (pe_or (pe_call GS (hr.mono (by decide)) (by rfl) gS kS bS .nil pass0 (pa_cons (pv 0) pa_nil))
        (pe_or (pe_call GN (hr.mono (by decide)) (by rfl) gN kN bN .nil pass0 (pa_cons (pv 0) pa_nil))
        (pe_one (pe_call GQ hr (by rfl) gQ kQ bQ .nil pass0 (pa_cons (pv 0) pa_nil))))))))), ?_⟩
    rcases hv with ⟨x, rfl, hz⟩ | hv
    · have hz' := sz _ hz
      have hp : ∀ H' : Hp, Plain K H' (.str x) := fun H' => .inl ⟨x, rfl, hz⟩
      have hor := ofS_or (.str x) ⟨x, rfl⟩
      refine ⟨.str x, rfl, _, _, _, _, true, rfl, ClsV.ty _, .base (.str x), kit_ty (by decide +kernel), true, rfl, iteF ?_⟩
      refine ⟨.str x, rfl, aB, _, rfl, .inr (hB H), rfl, rfl, _, rfl, ite2 (fun c => ?_) (fun c => ?_)⟩
      · have c' : inV (.str x) [.str "(", .str ")"] = true := c
        have := q H (Same.refl H)
        rw [hor, c'] at this
        exact this
      · have c' : inV (.str x) [.str "(", .str ")"] = false := by simpa using c
        rw [c', Bool.false_or] at hor
        refine ⟨.str x, rfl, .str x, rfl, hp _, fun H1 s1 => ⟨_, rfl, ite2 (fun c1 => ?_) (fun c1 => ?_)⟩⟩
        · have := q H1 s1
          rw [hor, c1] at this
          exact this
        · rw [(by simpa using c1 : ofS isWord (.str x) = false), Bool.false_or] at hor
          refine ⟨.str x, rfl, .str x, rfl, hp _, fun H2 s2 => ⟨_, rfl, ite2 (fun c2 => ?_) (fun c2 => ?_)⟩⟩
          · have := q H2 (s1.trans s2)
            rw [hor, c2] at this
            exact this
          · rw [(by simpa using c2 : ofS isSign (.str x) = false), Bool.false_or] at hor
            refine ⟨.str x, rfl, .str x, rfl, hp _, fun H3 s3 => ⟨_, rfl, ite2 (fun c3 => ?_) (fun c3 => ?_)⟩⟩
            · have := q H3 ((s1.trans s2).trans s3)
              rw [hor, c3] at this
              exact this
            · rw [(by simpa using c3 : ofS isNum (.str x) = false), Bool.false_or] at hor
              refine ⟨.str x, rfl, .str x, rfl, hp _, fun H4 s4 => ?_⟩
              have := q H4 (((s1.trans s2).trans s3).trans s4)
              rw [hor] at this
              exact this
    · obtain ⟨t0, k0, ty0⟩ := hv.2
      refine ⟨v, rfl, _, _, t0, _, false, rfl, ClsV.ty _, ty0 _ (Same.refl _), k0, false, rfl, iteT ?_⟩
      have := q H (Same.refl H)
      rw [ofS_no hv] at this
      exact this
def spIsText (K : PySem.W.Frag) : Sp := fun vs H Q _ => ∃ (v : V) (b : Bool), vs = [v] ∧ TxV K H v b ∧ ∀ H', Same H H' → Q (.bl b) H'
theorem ok_isText {f fT : Addr} {fd dT : FuncData} (F : Fun K "is_text" "is_text" sIsText f fd) (kT : PySem.W.keepIn K (.ref fT) = true) (GT : FnOk P w K mg base CX0 4 fT dT ["value"] (spTok K isTok)) (bT : Binds K dT ["value"] []) (gT : mg "is_token" = some (.ref fT))
    (mis : mg "isinstance" = none) (mli : mg "list" = none) (mal : mg "all" = none) : FnOk P w K mg base CX0 5 f fd ["value"] (spIsText K) := by
  refine F.ok scIsText (fun vs H Q E h => ?_) (fun cdv A outer s H vs Q E hr h => ?_)
  · obtain ⟨v, b, rfl, _⟩ := h
    rfl
  · obtain ⟨v, b, rfl, hv, q⟩ := h
    have nd := scIsText.nd
    refine ⟨_, pss_one (ps_ret (pe_and (pe_callB call_isi (by rfl) mis boot_isi (pa_cons (pv 0) (pa_cons (pe_bltn (v := .ty "list") (by rfl) mli boot_list rfl) pa_nil)))
      (pe_one (pe_callB (cr_all rfl) (by rfl) mal boot_all (pa_cons (pe_lc (own := [("token", 1)]) (g := gName 1) (tt := tYes) rfl nd (pi_list (pv 0)) (blkOk_by (own := [("token", 1)]) (N := ["value", "token"]) (sc := defScope sIsText) (by decide +kernel)) (fun _ _ _ _ _ => pg_name (i := 1) nd rfl (Or.inl rfl)) (fun _ _ _ _ _ => pts_nil)
        (fun _ _ _ _ _ => pe_call GT hr (by rfl) gT kT bT .nil pass0 (pa_cons (pv 1) pa_nil))) pa_nil))))), ?_⟩
    rcases hv with ⟨a, xs, rfl, ha, hz, hp, rfl⟩ | ⟨hv, rfl⟩
    · refine ⟨.ref a, rfl, _, _, _, _, true, rfl, ClsV.ty _, .base (.lst ha), kit_ty (by decide +kernel), true, rfl, iteT ?_⟩
      refine ⟨.ref a, rfl, a, rfl, ⟨_, SqL.of ha⟩, fun D nD => lc_same (walk_list (xs := xs)) nD ((xs.map (ofS isTok)).map V.bl) (by rw [List.length_map, List.length_map]) (sz _ (by omega)) (fun H1 s1 => SqL.of (s1 _ _ ha)) ?_ fun H1 s1 eD => ?_⟩
      · rintro i y H1 H1' hi s1 ⟨rfl, hy⟩
        refine ⟨Same.refl _, rfl, fun Q' q' => ?_⟩
        refine ⟨y, rfl, y, rfl, (hp y (List.mem_of_getElem? hy)).same s1, fun H2 s2 => q' _ _ s2 ?_⟩
        rw [List.getElem?_map, List.getElem?_map, hy]
        rfl
      · refine ⟨D, xs.map (ofS isTok), rfl, SqL.of eD, ?_⟩
        have := q H1 s1
        rw [List.all_map]
        exact this
    · obtain ⟨t0, k0, ty0⟩ := hv
      exact ⟨v, rfl, _, _, t0, _, false, rfl, ClsV.ty _, ty0 _ (Same.refl _), k0, false, rfl, iteF (q H (Same.refl H))⟩
/-- refused with the very object, or let -/
def Refuses (C : Addr) (H : Hp) (v : V) (E : XK) : Prop := ∀ (d : Addr) (H' : Hp), Same H H' → H' d = some (.xd [("value", v)]) → E (.ref C) (some d) H'
def spReq (K : PySem.W.Frag) (C : Addr) : Sp := fun vs H Q E => ∃ (v : V) (b : Bool), vs = [v] ∧ TxV K H v b ∧ (b = true → ∀ H', Same H H' → Q .non H') ∧ (b = false → Refuses C H v E)
theorem ok_req {f fT : Addr} {fd dT : FuncData} (F : Fun K "require_text" "require_text" sReqText f fd) (kT : PySem.W.keepIn K (.ref fT) = true) (GT : FnOk P w K mg base CX0 5 fT dT ["value"] (spIsText K)) (bT : Binds K dT ["value"] []) (gT : mg "is_text" = some (.ref fT))
    (Z : ErrC K C T) (J : ErrI K C I) (mC : mg "InvalidText" = some (.ref C)) : FnOk P w K mg base (L2.CX P w) 6 f fd ["text"] (spReq K C) := by
  refine F.okX scReqText (fun vs H Q E h => ?_) (fun cdv A outer s H vs Q E hr h => ?_)
  · obtain ⟨v, b, rfl, _⟩ := h
    rfl
  · obtain ⟨v, b, rfl, hv, q1, q2⟩ := h
    refine ⟨_, pss_one (ps_if (pt_not (pt_val (pe_call GT hr (by rfl) gT kT bT .nil pass0 (pa_cons (pv 0) pa_nil)))) (pss_one (ps_raiseErr rfl Z J hr (takes_of rfl rfl rfl rfl) mC (pv 0))) pss_nil), ?_⟩
    refine ⟨v, rfl, v, b, rfl, hv, fun H1 s1 => ⟨b, rfl, ?_⟩⟩
    cases b with
    | true => exact iteF (q1 rfl H1 s1)
    | false => exact iteT ⟨v, rfl, fun d hd => q2 rfl d _ (s1.trans (same_upd hd)) upd_same⟩
end
end K2

set_option Elab.async false
set_option linter.all false
set_option maxRecDepth 100000
set_option maxHeartbeats 4000000
/-! k02: where tokens end -/
namespace K2
open PySem PySem.Spec PyProof.Rows L2 EL LW
open Ln (L isLet isFig isRun isWord isSign isNum isQuoted isTok)
open PySem.EV (ErrC ErrI)
abbrev sRunEnd : Stmt := topS 67
abbrev sTokEnd : Stmt := topS 68
theorem scRunEnd : FnScope ["line", "begin", "characters", "end"] ["line", "begin"] (defScope sRunEnd) := ⟨rfl, rfl, rfl, by decide +kernel, rfl, by decide +kernel, by decide +kernel⟩
theorem scTokEnd : FnScope ["line", "begin"] ["line", "begin"] (defScope sTokEnd) := ⟨rfl, rfl, rfl, by decide +kernel, rfl, by decide +kernel, by decide +kernel⟩
theorem ip_addS {X : Cx} : PIp X .Add rAddS := fun pins s σ H x y v u Q I rx ry h => iop_add_str pins s σ H x y v u Q I rx ry h
theorem cp_at {x : Str} {i c : Nat} (h : (cp x)[i]? = some c) : atI x.cps.toList (i : Int) = some c := atI_nat (xs := x.cps.toList) (j := i) h
/-- the run that a sign begins -/
def runP (c : Nat) : Nat → Bool := if isLet c then isLet else isFig
def runS (c : Nat) : Str := if isLet c then letS else figS
theorem mem_run (c d : Nat) : decide (d ∈ (runS c).cps.toList) = runP c d := by
  unfold runS runP
  split
  · exact mem_let d
  · exact mem_fig d
section
variable {P : Program} {w : World} {K : PySem.W.Frag} {mg : Str → Option Value} {base : Heap} {C T I : Addr}
def spRunEnd : Sp := fun vs H Q _ => ∃ (x : Str) (i c : Nat), vs = [.str x, .int i] ∧ x.length ≤ 100000 ∧ (cp x)[i]? = some c ∧ Q (.int ((i + (((cp x).drop i).takeWhile (runP c)).length : Nat) : Int)) H
theorem ok_runEnd {f : Addr} {fd : FuncData} {t1 t2 : Tok} (F : Fun K "run_end" "run_end" sRunEnd f fd) (ml : mg "len" = none) (mL : mg "LETTERS" = some (.str letS t1)) (mF : mg "FIGURES" = some (.str figS t2)) : FnOk P w K mg base CX0 1 f fd ["line", "begin"] spRunEnd := by
  refine F.ok scRunEnd (fun vs H Q E h => ?_) (fun cdv A outer s H vs Q E hr h => ?_)
  · obtain ⟨x, i, c, rfl, _⟩ := h
    rfl
  · obtain ⟨x, i, c, rfl, hz, hc, q⟩ := h
    have nd := scRunEnd.nd
    have hz' := sz _ hz
    refine ⟨_, pss_cons (ps_set (i := 2) nd rfl (.inl rfl) (pe_ifExp (pt_cmpR op_in_sign (pe_ix ix_str (pv 0) (pv 1) (fun _ _ => rfl)) (pe_glob (v := .str letS) (by rfl) mL ⟨_, rfl⟩) (by rfl)) (pe_glob (v := .str letS) (by rfl) mL ⟨_, rfl⟩) (pe_glob (v := .str figS) (by rfl) mF ⟨_, rfl⟩)))
      (pss_cons (ps_set (i := 3) nd rfl (.inl rfl) (pv 1))
      (pss_cons (ps_while PassesOwn.never (PW.pt (pw_and (pt_cmpR op_lt (pv 3) (pe_callB call_len_str (by rfl) ml PySem.boot_len (pa_cons (pv 0) pa_nil)) (nomark _)) (pw_and1 (pt_cmpR op_in_sign (pe_ix ix_str (pv 0) (pv 3) (fun _ _ => rfl)) (pv 2) (by rfl)))))
          (pss_one (ps_aug (i := 3) nd rfl (.inl rfl) pe_int ip_add)))
      (pss_one (ps_ret (pv 3))))), ?_⟩
    -- the loop
    have twl : (((cp x).drop i).takeWhile (runP c)).length ≤ (cp x).length - i := by
      have := (List.takeWhile_sublist (l := (cp x).drop i) (runP c)).length_le
      rw [List.length_drop] at this
      exact this
    have hi : i < (cp x).length := (List.getElem?_eq_some_iff.mp hc).1
    have hl := cp_len x
    generalize hm : (((cp x).drop i).takeWhile (runP c)).length = m at q twl
    refine ⟨.str x, rfl, .int i, rfl, x, i, c, rfl, rfl, hz', cp_at hc, c, letS, rfl, rfl, _, rfl, ?_⟩
    rw [mem_let]
    have body : ∀ (cs : Str), (∀ d, decide (d ∈ cs.cps.toList) = runP c d) → ∀ n σ H', (∃ e, e ≤ m ∧ n = m - e ∧ σ = [some (.str x), some (.int i), some (.str cs), some (.int ((i + e : Nat) : Int))] ∧ H' = H) →
        tAnd (tTest (tOp (rI0 fun i j => .bl (decide (i < j))) (tVar 3) (tCB (fun xs H Q => ∃ z, xs = [.str z] ∧ z.length ≤ sizeLine ∧ Q (.int z.length) H) (tCons (tVar 0) tNil))))
          (tTest (tOp (fun x y H Q => ∃ (c : Nat) (z : Str), x = .str ⟨#[c]⟩ ∧ y = .str z ∧ Q (.bl (decide (c ∈ z.cps.toList))) H) (tOp rIxS (tVar 0) (tVar 3)) (tVar 2))) σ H' fun b H1 =>
          if b = true then ∃ N : L2.St → Hp → Prop, (∀ σ' H', N σ' H' → ∃ m', m' < n ∧ ∃ e, e ≤ m ∧ m' = m - e ∧ σ' = [some (.str x), some (.int i), some (.str cs), some (.int ((i + e : Nat) : Int))] ∧ H' = H) ∧
            tAug 3 (tC (.int 1)) (ipI fun i j => i + j) { nx := N, ct := N, bk := tRet (tVar 3) { nx := fun _ H' => Q .non H', rt := Q }, rt := Q } σ H1
          else tRet (tVar 3) { nx := fun _ H' => Q .non H', rt := Q } σ H1 := by
      rintro cs hcs n σ H' ⟨e, he, rfl, rfl, rfl⟩
      have fin : e = m → tRet (tVar 3) { nx := fun _ H' => Q .non H', rt := Q } [some (.str x), some (.int i), some (.str cs), some (.int ((i + e : Nat) : Int))] H' := fun z => by
        subst z
        exact ⟨_, rfl, q⟩
      refine ⟨_, rfl, .str x, rfl, x, rfl, hz', _, _, rfl, rfl, _, rfl, ite2 (fun c1 => ?_) (fun c1 => ?_)⟩
      · have l1 : i + e < (cp x).length := by
          have := of_decide_eq_true c1
          omega
        obtain ⟨d, hd⟩ : ∃ d, (cp x)[i + e]? = some d := ⟨_, List.getElem?_eq_getElem l1⟩
        have hd2 : ((cp x).drop i)[e]? = some d := by rw [List.getElem?_drop]; exact hd
        refine ⟨.str x, rfl, _, rfl, x, _, d, rfl, rfl, hz', cp_at hd, .str cs, rfl, d, cs, rfl, rfl, _, rfl, ?_⟩
        rw [hcs d]
        cases hp : runP c d with
        | true =>
          have lt : e < m := by
            rcases Nat.lt_or_ge e m with h | h
            · exact h
            · have em : e = m := by omega
              subst em
              rw [← hm] at hd2
              rw [Ln.tw_end hd2] at hp
              cases hp
          refine iteT ⟨fun σ' H1 => ∃ m', m' < m - e ∧ ∃ e, e ≤ m ∧ m' = m - e ∧ σ' = [some (.str x), some (.int i), some (.str cs), some (.int ((i + e : Nat) : Int))] ∧ H1 = H', fun _ _ h => h, ?_⟩
          exact ⟨_, rfl, _, _, rfl, rfl, m - (e + 1), by omega, e + 1, lt, rfl, rfl, rfl⟩
        | false =>
          refine iteF (fin ?_)
          rcases Nat.lt_or_ge e m with h | h
          · obtain ⟨d', h1, h2⟩ := Ln.tw_lt (p := runP c) (cs := (cp x).drop i) (k := e) (by omega)
            rw [hd2] at h1
            cases h1
            rw [h2] at hp
            cases hp
          · omega
      · refine iteF (fin ?_)
        have : ¬ i + e < (cp x).length := fun h => c1 (decide_eq_true (by omega))
        omega
    refine ite2 (fun h => ?_) (fun h => ?_)
    · exact ⟨.int i, rfl, fun n σ H' => ∃ e, e ≤ m ∧ n = m - e ∧ σ = [some (.str x), some (.int i), some (.str letS), some (.int ((i + e : Nat) : Int))] ∧ H' = H, ⟨m, 0, Nat.zero_le _, rfl, rfl, rfl⟩, body letS fun d => by rw [mem_let, show runP c = isLet from if_pos h]⟩
    · exact ⟨.int i, rfl, fun n σ H' => ∃ e, e ≤ m ∧ n = m - e ∧ σ = [some (.str x), some (.int i), some (.str figS), some (.int ((i + e : Nat) : Int))] ∧ H' = H, ⟨m, 0, Nat.zero_le _, rfl, rfl, rfl⟩, body figS fun d => by rw [mem_fig, show runP c = isFig from if_neg h]⟩
end
end K2

set_option Elab.async false
set_option linter.all false
set_option maxRecDepth 100000
set_option maxHeartbeats 4000000
/-! k02: token_end -/
namespace K2
open PySem PySem.Spec PyProof.Rows L2 EL LW
open Ln (L isLet isFig isRun isWord isSign isNum isQuoted isTok more)
open PySem.EV (ErrC ErrI)
theorem eq_one (s : Str) (c : Nat) : eqV (.str ⟨#[c]⟩) (.str s) = (cp s == [c]) := by
  show ((⟨#[c]⟩ : Str) == s) = _
  rw [Bool.eq_iff_iff, beq_iff_eq, beq_iff_eq]
  exact ⟨fun e => by rw [← e]; rfl, fun e => (cp_inj (x := s) (y := ⟨#[c]⟩) e).symm⟩
theorem in_letters (s : Str) (cs : L) (h : cp s = cs.take 1) : inV (.str s) (signsOf letS) = cs.head?.elim false isLet := by
  unfold inV signsOf
  rw [List.any_map]
  have e : ((fun y => eqV y (.str s)) ∘ fun c => V.str ⟨#[c]⟩) = fun c => (cp s == [c]) := by
    funext c
    exact eq_one s c
  rw [e, h]
  cases cs with
  | nil =>
    rw [Bool.eq_iff_iff, List.any_eq_true]
    simp
  | cons d ds =>
    show (letS.cps.toList.any fun c => [d] == [c]) = isLet d
    rw [← mem_let, Bool.eq_iff_iff, List.any_eq_true, decide_eq_true_iff]
    constructor
    · rintro ⟨c, hc, e⟩
      have : d = c := by simpa using e
      rw [this]
      exact hc
    · intro h
      exact ⟨d, h, by simp⟩
theorem flat_signs (x : Str) : (signsOf x).all flatV = true := by
  unfold signsOf
  rw [List.all_map, List.all_eq_true]
  intro c _
  rfl
section
variable {P : Program} {w : World} {K : PySem.W.Frag} {mg : Str → Option Value} {base : Heap} {C T I : Addr}
def spTokEnd : Sp := fun vs H Q _ => ∃ (x : Str) (i c : Nat) (cs : L), vs = [.str x, .int i] ∧ x.length ≤ 100000 ∧ (cp x).drop i = c :: cs ∧ ∀ H', Same H H' → Q (.int ((i + (more c cs + 1) : Nat) : Int)) H'
theorem ok_tokEnd {f fE : Addr} {fd dE : FuncData} {t1 t2 t3 : Tok} (F : Fun K "token_end" "token_end" sTokEnd f fd) (kE : PySem.W.keepIn K (.ref fE) = true) (GE : FnOk P w K mg base CX0 1 fE dE ["line", "begin"] spRunEnd) (bE : Binds K dE ["line", "begin"] []) (gE : mg "run_end" = some (.ref fE))
    (mli : mg "list" = none) (mL : mg "LETTERS" = some (.str letS t1)) (mF : mg "FIGURES" = some (.str figS t2)) (mQ : mg "QUOTE" = some (.str "'" t3)) : FnOk P w K mg base CX0 2 f fd ["line", "begin"] spTokEnd := by
  refine F.ok scTokEnd (fun vs H Q E h => ?_) (fun cdv A outer s H vs Q E hr h => ?_)
  · obtain ⟨x, i, c, cs, rfl, _⟩ := h
    rfl
  · obtain ⟨x, i, c, cs, rfl, hz, hd, q⟩ := h
    have nd := scTokEnd.nd
    have hz' := sz _ hz
    refine ⟨_, pss_cons (ps_if (PW.pt (pw_and (pt_cmpR op_eq (pe_ix ix_str (pv 0) (pv 1) (fun _ _ => rfl)) (pe_glob (v := .str "'") (by rfl) mQ ⟨_, rfl⟩) (nomark _))
          (pw_and1 (pt_cmpR op_in_seq (pe_slice sl_str (pv 0) (po_some (pe_op op_add (pv 1) pe_int)) (po_some (pe_op op_add (pv 1) pe_int))) (pe_callTy (call_listS rfl) (by rfl) mli boot_list (pa_cons (pe_glob (v := .str letS) (by rfl) mL ⟨_, rfl⟩) pa_nil)) (by rfl)))))
        (pss_one (ps_ret (pe_call GE hr (by rfl) gE kE bE .nil pass0 (pa_cons (pv 0) (pa_cons (pe_op op_add (pv 1) pe_int) pa_nil))))) pss_nil)
      (pss_cons (ps_if (PW.pt (pw_or (pt_cmpR op_in_sign (pe_ix ix_str (pv 0) (pv 1) (fun _ _ => rfl)) (pe_glob (v := .str letS) (by rfl) mL ⟨_, rfl⟩) (by rfl)) (pw_or1 (pt_cmpR op_in_sign (pe_ix ix_str (pv 0) (pv 1) (fun _ _ => rfl)) (pe_glob (v := .str figS) (by rfl) mF ⟨_, rfl⟩) (by rfl)))))
        (pss_one (ps_ret (pe_call GE hr (by rfl) gE kE bE .nil pass0 (pa_cons (pv 0) (pa_cons (pv 1) pa_nil))))) pss_nil)
      (pss_one (ps_ret (pe_op op_add (pv 1) pe_int)))), ?_⟩
    have hc : (cp x)[i]? = some c := by
      have := congrArg List.head? hd
      rw [List.head?_drop] at this
      exact this
    have hd1 : (cp x).drop (i + 1) = cs := by
      rw [show i + 1 = 1 + i by omega, Nat.add_comm 1 i, ← List.drop_drop, hd]
      rfl
    -- the second test, and the end
    have tail : ∀ H1, Same H H1 → (c = 39 → (cs.head?.elim false isLet) = false) → tSeq (tIfS (tOr (tTest (tOp (fun x y H Q => ∃ (c : Nat) (z : Str), x = .str ⟨#[c]⟩ ∧ y = .str z ∧ Q (.bl (decide (c ∈ z.cps.toList))) H) (tOp rIxS (tVar 0) (tVar 1)) (tC (.str letS))))
          (tTest (tOp (fun x y H Q => ∃ (c : Nat) (z : Str), x = .str ⟨#[c]⟩ ∧ y = .str z ∧ Q (.bl (decide (c ∈ z.cps.toList))) H) (tOp rIxS (tVar 0) (tVar 1)) (tC (.str figS))))) (tRet (tCall spRunEnd [] E0 (tCons (tVar 0) (tCons (tVar 1) tNil)))) tNext)
        (tRet (tOp (rI0 fun i j => .int (i + j)) (tVar 1) (tC (.int 1)))) { nx := fun _ H' => Q .non H', rt := Q } [some (.str x), some (.int i)] H1 := by
      intro H1 s1 h39
      have q1 := q H1 s1
      have run : ∀ p, runP c = p → p c = true → more c cs = (cs.takeWhile p).length → tRet (tCall spRunEnd [] E0 (tCons (tVar 0) (tCons (tVar 1) tNil))) { nx := tRet (tOp (rI0 fun i j => .int (i + j)) (tVar 1) (tC (.int 1))) { nx := fun _ H' => Q .non H', rt := Q }, rt := Q } [some (.str x), some (.int i)] H1 := by
        intro p hp hpc hm
        refine ⟨.str x, rfl, .int i, rfl, x, i, c, rfl, hz, hc, ?_⟩
        rw [hd, hp, List.takeWhile_cons, if_pos hpc]
        rw [hm] at q1
        exact q1
      refine ⟨.str x, rfl, .int i, rfl, x, i, c, rfl, rfl, hz', cp_at hc, c, letS, rfl, rfl, _, rfl, ?_⟩
      rw [mem_let]
      cases hl : isLet c with
      | true =>
        refine iteT (run isLet ?_ hl ?_)
        · unfold runP
          rw [if_pos hl]
        · unfold more
          rw [if_neg (fun z => by rw [h39 z.1] at z; cases z.2), if_pos hl]
      | false =>
        refine iteF ⟨.str x, rfl, .int i, rfl, x, i, c, rfl, rfl, hz', cp_at hc, c, figS, rfl, rfl, _, rfl, ?_⟩
        rw [mem_fig]
        have hp : runP c = isFig := by
          unfold runP
          rw [hl]
          rfl
        cases hf : isFig c with
        | true =>
          refine iteT (run isFig hp hf ?_)
          unfold more
          rw [if_neg (fun z => by rw [h39 z.1] at z; cases z.2), hl, hf]
          rfl
        | false =>
          refine iteF ⟨_, rfl, _, _, rfl, rfl, ?_⟩
          have e : more c cs = 0 := by
            unfold more
            rw [if_neg (fun z => by rw [h39 z.1] at z; cases z.2), hl, hf]
            rfl
          rw [e] at q1
          exact q1
    refine ⟨.str x, rfl, .int i, rfl, x, i, c, rfl, rfl, hz', cp_at hc, rfl, _, rfl, ?_⟩
    have e39 : decide (V.str ⟨#[c]⟩ = V.str "'") = decide (c = 39) := by
      rw [dec_str]
      have e1 : cp "'" = [39] := by decide +kernel
      rw [e1]
      show decide ([c] = [39]) = _
      simp
    rw [e39]
    by_cases h39 : c = 39
    · rw [decide_eq_true h39]
      refine iteT ⟨.str x, rfl, .int i, rfl, _, _, rfl, rfl, (i : Int) + 1, rfl, .int i, rfl, _, _, rfl, rfl, (i : Int) + 2, rfl, x, rfl, hz', letS, rfl, by rw [sizeLine_eq]; decide, fun p np => ?_⟩
      have s1 := same_upd (o := .lst (signsOf letS)) np
      have ecut : cp (cutS x (some ((i : Int) + 1)) (some ((i : Int) + 2))) = cs.take 1 := by
        have := cut_mid x (i + 1) (i + 2) (by omega)
        rw [hd1] at this
        rw [show (i : Int) + 1 = ((i + 1 : Nat) : Int) by omega, show (i : Int) + 2 = ((i + 2 : Nat) : Int) by omega, this]
        congr 1
        omega
      refine ⟨p, _, rfl, .inl (SqL.of upd_same), rfl, flat_signs _, _, rfl, ?_⟩
      show (if inV (.str (cutS x (some ((i : Int) + 1)) (some ((i : Int) + 2)))) (signsOf letS) = true then _ else _)
      rw [in_letters _ cs ecut]
      cases hh : cs.head?.elim false isLet with
      | true =>
        obtain ⟨d, hd3, hl⟩ : ∃ d, cs.head? = some d ∧ isLet d = true := by
          cases e : cs.head? with
          | none => rw [e] at hh; cases hh
          | some d => exact ⟨d, rfl, by rw [e] at hh; exact hh⟩
        have hd4 : (cp x)[i + 1]? = some d := by
          have := hd3
          rw [← hd1, List.head?_drop] at this
          exact this
        refine iteT ⟨.str x, rfl, .int i, rfl, _, _, rfl, rfl, x, i + 1, d, rfl, hz, hd4, ?_⟩
        have q1 := q _ s1
        have em : more c cs = (cs.takeWhile isLet).length := by
          unfold more
          rw [if_pos ⟨h39, hh⟩]
        have ep : runP d = isLet := if_pos hl
        rw [hd1, ep]
        rw [em] at q1
        rw [show i + 1 + (cs.takeWhile isLet).length = i + ((cs.takeWhile isLet).length + 1) by omega]
        exact q1
      | false => exact iteF (tail _ s1 fun _ => hh)
    · rw [decide_eq_false h39]
      exact iteF (iteF (tail H (Same.refl H) fun e => absurd e h39))
end
end K2

set_option Elab.async false
set_option linter.all false
set_option maxRecDepth 100000
set_option maxHeartbeats 4000000
/-! k02: cut -/
namespace K2
open PySem PySem.Spec PyProof.Rows L2 EL LW
open Ln (L isLet isFig isRun isWord isSign isNum isQuoted isTok more scan)
open PySem.EV (ErrC ErrI)
abbrev sCut : Stmt := topS 69
theorem scCut : FnScope ["line", "text", "at", "end"] ["line"] (defScope sCut) := ⟨rfl, rfl, rfl, by decide +kernel, rfl, by decide +kernel, by decide +kernel⟩
theorem _root_.L2.PS.nox1 {X : Cx} {st : Stmt} {t : TS} (h : PS X.nox st t) : PS X st t := ⟨fun pins s σ H D I hw =>
  wpAny_mono (h.run pins s σ H D (I.wish _) hw) (fun _ _ q => q.unwish) fun _ _ z => False.elim z⟩
def S (t : L) : Str := ⟨t.toArray⟩
theorem cp_S (t : L) : cp (S t) = t := rfl
theorem S_cp (x : Str) : S (cp x) = x := cp_inj (cp_S _)
theorem S_len (t : L) : (S t).length = t.length := by rw [← cp_len, cp_S]
def vl (ts : List L) : List V := ts.map fun t => V.str (S t)
theorem vl_tok (ts : List L) : (vl ts).all (ofS isTok) = ts.all isTok := by
  unfold vl
  rw [List.all_map]
  rfl
section
variable {P : Program} {w : World} {K : PySem.W.Frag} {mg : Str → Option Value} {base : Heap} {C T I : Addr}
theorem vl_text {H : Hp} {p : Addr} {ts : List L} (e : H p = some (.lst (vl ts))) (hn : ts.length ≤ 1000) (hl : ∀ t ∈ ts, t.length ≤ 1000) : TxV K H (.ref p) (ts.all isTok) := by
  refine .inl ⟨p, vl ts, rfl, e, by unfold vl; rw [List.length_map]; exact hn, fun y hy => ?_, (vl_tok ts).symm⟩
  obtain ⟨t, ht, rfl⟩ := List.mem_map.mp hy
  exact .inl ⟨S t, rfl, by rw [S_len]; have := hl t ht; omega⟩
def spCut (K : PySem.W.Frag) (C : Addr) : Sp := fun vs H Q E => ∃ v : V, vs = [v] ∧
  ((∃ x, v = .str x ∧ x.length ≤ 1000 ∧ ((scan (cp x)).all isTok = true → ∀ H' p, Same H H' → H p = none → H' p = some (.lst (vl (scan (cp x)))) → Q (.ref p) H') ∧ ((scan (cp x)).all isTok = false → Refuses C H v E)) ∨ (NoS K H v ∧ Refuses C H v E))
theorem refuses_mono {H H1 : Hp} {v : V} {E : XK} (h : Refuses C H v E) (s : Same H H1) : Refuses C H1 v E := fun d H' s' e => h d H' (s.trans s') e
theorem ok_cut {f fE fX : Addr} {fd dE dX : FuncData} (F : Fun K "cut" "cut" sCut f fd) (kE : PySem.W.keepIn K (.ref fE) = true) (GE : FnOk P w K mg base CX0 2 fE dE ["line", "begin"] spTokEnd) (bE : Binds K dE ["line", "begin"] []) (gE : mg "token_end" = some (.ref fE))
    (kX : PySem.W.keepIn K (.ref fX) = true) (GX : FnOk P w K mg base CX0 5 fX dX ["value"] (spIsText K)) (bX : Binds K dX ["value"] []) (gX : mg "is_text" = some (.ref fX))
    (Z : ErrC K C T) (J : ErrI K C I) (mC : mg "InvalidText" = some (.ref C)) (mis : mg "isinstance" = none) (mst : mg "str" = none) (ml : mg "len" = none) : FnOk P w K mg base (L2.CX P w) 6 f fd ["line"] (spCut K C) := by
  refine F.okX scCut (fun vs H Q E h => ?_) (fun cdv A outer s H vs Q E hr h => ?_)
  · obtain ⟨v, rfl, _⟩ := h
    rfl
  · obtain ⟨v, rfl, hv⟩ := h
    have nd := scCut.nd
    have hr2 := hr.mono (by decide : 2 ≤ 5)
    refine ⟨_, pss_cons (ps_if (pt_not (pt_val (pe_callB call_isi (by rfl) mis boot_isi (pa_cons (pv 0) (pa_cons (pe_bltn (v := .ty "str") (by rfl) mst boot_str rfl) pa_nil))))) (pss_one (ps_raiseErr rfl Z J hr (takes_of rfl rfl rfl rfl) mC (pv 0))) pss_nil)
      (pss_cons (ps_set (i := 1) nd rfl (.inl rfl) (pe_lst pa_nil))
      (pss_cons (ps_set (i := 2) nd rfl (.inl rfl) pe_int)
      (pss_cons (PS.nox1 (ps_while PassesOwn.never (pt_cmpR op_lt (pv 2) (pe_callB call_len_str (by rfl) ml PySem.boot_len (pa_cons (pv 0) pa_nil)) (nomark _))
          (pss_cons (ps_set (i := 3) nd rfl (.inl rfl) (pe_call GE hr2 (by rfl) gE kE bE .nil pass0 (pa_cons (pv 0) (pa_cons (pv 2) pa_nil))))
          (pss_cons (ps_if (pt_cmpR op_ne (pe_ix ix_str (pv 0) (pv 2) (fun _ _ => rfl)) pe_str (nomark _)) (pss_one (ps_expr (pe_bm PySem.F.plainAttrs_list PySem.F.slot_list_append PySem.F.type_list_append mt_append (pv 1) (pa_cons (pe_slice sl_str (pv 0) (po_some (pv 2)) (po_some (pv 3))) pa_nil)))) pss_nil)
          (pss_one (ps_set (i := 2) nd rfl (.inl rfl) (pv 3)))))))
      (pss_cons (ps_if (pt_not (pt_val (pe_call GX hr (by rfl) gX kX bX .nil pass0 (pa_cons (pv 1) pa_nil)))) (pss_one (ps_raiseErr rfl Z J hr (takes_of rfl rfl rfl rfl) mC (pv 0))) pss_nil)
      (pss_one (ps_ret (pv 1))))))), ?_⟩
    rcases hv with ⟨x, rfl, hz, q1, q2⟩ | ⟨hv, q2⟩
    · have hz' := sz x.length (by omega)
      have hl := cp_len x
      refine ⟨.str x, rfl, _, _, _, _, true, rfl, ClsV.ty _, .base (.str x), kit_ty (by decide +kernel), true, rfl, iteF ?_⟩
      refine ⟨Nat.zero_le _, fun p np => ?_⟩
      have s0 := same_upd (o := .lst []) np
      refine ⟨fun n σ H' => ∃ (i : Nat) (ts : List L) (e3 : Option V), n = x.length - i ∧ i ≤ x.length ∧ ts ++ scan ((cp x).drop i) = scan (cp x) ∧ σ = [some (.str x), some (.ref p), some (.int i), e3] ∧ Same H H' ∧ H' p = some (.lst (vl ts)) ∧ ts.length ≤ i ∧ ∀ t ∈ ts, t.length ≤ 1000,
        ⟨x.length, 0, [], none, rfl, Nat.zero_le _, rfl, rfl, s0, upd_same, Nat.le_refl _, by simp⟩, ?_⟩
      rintro n σ H1 ⟨i, ts, e3, rfl, hi, hs, rfl, s1, ep, hn, ht⟩
      refine ⟨_, rfl, .str x, rfl, x, rfl, hz', _, _, rfl, rfl, _, rfl, ite2 (fun c1 => ?_) (fun c1 => ?_)⟩
      · have lt : i < x.length := by
          have := of_decide_eq_true c1
          omega
        obtain ⟨c, cs, hd⟩ : ∃ c cs, (cp x).drop i = c :: cs := by
          cases e : (cp x).drop i with
          | nil =>
            have := congrArg List.length e
            rw [List.length_drop] at this
            simp at this
            omega
          | cons c cs => exact ⟨c, cs, rfl⟩
        have hc : (cp x)[i]? = some c := by
          have := congrArg List.head? hd
          rw [List.head?_drop] at this
          exact this
        have hcl : cs.length + 1 = x.length - i := by
          have := congrArg List.length hd
          rw [List.length_drop] at this
          simp at this
          omega
        have hml := Ln.more_le c cs
        have step := Ln.scan_step c cs
        rw [← hd] at step
        rw [List.drop_drop] at step
        refine ⟨fun σ' H' => ∃ m', m' < x.length - i ∧ ∃ (i : Nat) (ts : List L) (e3 : Option V), m' = x.length - i ∧ i ≤ x.length ∧ ts ++ scan ((cp x).drop i) = scan (cp x) ∧ σ' = [some (.str x), some (.ref p), some (.int i), e3] ∧ Same H H' ∧ H' p = some (.lst (vl ts)) ∧ ts.length ≤ i ∧ ∀ t ∈ ts, t.length ≤ 1000, fun _ _ h => h, ?_⟩
        refine ⟨.str x, rfl, .int i, rfl, x, i, c, cs, rfl, by omega, hd, fun H2 s2 => ?_⟩
        refine ⟨.str x, rfl, .int i, rfl, x, i, c, rfl, rfl, hz', cp_at hc, rfl, _, rfl, ?_⟩
        have e32 : decide (V.str ⟨#[c]⟩ = V.str " ") = decide (c = 32) := by
          rw [dec_str]
          have e1 : cp " " = [32] := by decide +kernel
          rw [e1]
          show decide ([c] = [32]) = _
          simp
        rw [e32]
        have ep2 := s2 _ _ ep
        have s02 := s1.trans s2
        by_cases h32 : c = 32
        · rw [decide_eq_true h32]
          rw [if_pos h32, List.nil_append] at step
          refine iteF ⟨_, rfl, x.length - (i + (more c cs + 1)), by omega, i + (more c cs + 1), ts, _, rfl, by omega, ?_, rfl, s02, ep2, by omega, ht⟩
          rw [← step]
          exact hs
        · rw [decide_eq_false h32]
          rw [if_neg h32] at step
          have ecut : cutS x (some (i : Int)) (some ((i + (more c cs + 1) : Nat) : Int)) = S (((cp x).drop i).take (more c cs + 1)) := cp_inj (by
            rw [cp_S, cut_mid x i _ (by omega)]
            congr 1
            omega)
          refine iteT ⟨.ref p, rfl, .inl ⟨rfl, _, SqL.of ep2⟩, .str x, rfl, .int i, rfl, (i : Int), rfl, _, rfl, _, rfl, x, rfl, hz', p, vl ts, _, rfl, rfl, ep2, ?_, ?_⟩
          · show (List.map _ ts).length < sizeLine
            rw [List.length_map]
            exact Nat.lt_of_lt_of_le (by omega : ts.length < 100000) (sz _ (Nat.le_refl _))
          · refine ⟨_, rfl, x.length - (i + (more c cs + 1)), by omega, i + (more c cs + 1), ts ++ [((cp x).drop i).take (more c cs + 1)], _, rfl, by omega, ?_, rfl, fun b o hb => ?_, ?_, ?_, ?_⟩
            · rw [List.append_assoc, ← step]
              exact hs
            · rw [upd_ne (ne_of_none hb np)]
              exact s02 _ _ hb
            · rw [upd_same, ecut]
              unfold vl
              rw [List.map_append]
              rfl
            · rw [List.length_append]
              simp
              omega
            · intro t htm
              rw [List.mem_append, List.mem_singleton] at htm
              rcases htm with h | rfl
              · exact ht t h
              · rw [List.length_take, List.length_drop]
                omega
      · have ei : i = x.length := by
          have : ¬ i < x.length := fun h => c1 (decide_eq_true (by omega))
          omega
        have ets : ts = scan (cp x) := by
          rw [← hs, List.drop_of_length_le (by omega), show scan ([] : L) = [] from rfl, List.append_nil]
        subst ets
        refine ⟨.ref p, rfl, .ref p, _, rfl, vl_text ep (by omega) ht, fun H2 s2 => ⟨_, rfl, ?_⟩⟩
        cases hb : (scan (cp x)).all isTok with
        | true => exact iteF ⟨_, rfl, q1 hb H2 p (s1.trans s2) np (s2 _ _ ep)⟩
        | false => exact iteT ⟨.str x, rfl, fun d hd => q2 hb d _ ((s1.trans s2).trans (same_upd hd)) upd_same⟩
    · obtain ⟨t0, k0, ty0⟩ := hv.2
      exact ⟨v, rfl, _, _, t0, _, false, rfl, ClsV.ty _, ty0 _ (Same.refl _), k0, false, rfl, iteT ⟨v, rfl, fun d hd => q2 d _ (same_upd hd) upd_same⟩⟩
end
end K2

set_option Elab.async false
set_option linter.all false
set_option maxRecDepth 100000
set_option maxHeartbeats 4000000
/-! k02: line_of, run_together, tight_line -/
namespace K2
open PySem PySem.Spec PyProof.Rows L2 EL LW
open Ln (L isLet isFig isRun isWord isSign isNum isQuoted isTok more scan together joined need lineTo lawLine jn)
open PySem.EV (ErrC ErrI)
abbrev sLineOf : Stmt := topS 70
abbrev sTog : Stmt := topS 71
abbrev sTight : Stmt := topS 72
theorem scLineOf : FnScope ["text"] ["text"] (defScope sLineOf) := ⟨rfl, rfl, rfl, by decide +kernel, rfl, by decide +kernel, by decide +kernel⟩
theorem scTog : FnScope ["token", "after"] ["token", "after"] (defScope sTog) := ⟨rfl, rfl, rfl, by decide +kernel, rfl, by decide +kernel, by decide +kernel⟩
theorem scTight : FnScope ["text", "line", "at", "token"] ["text"] (defScope sTight) := ⟨rfl, rfl, rfl, by decide +kernel, rfl, by decide +kernel, by decide +kernel⟩
theorem cp_app (x y : Str) : cp (x ++ y) = cp x ++ cp y := TL.tl_append x y
theorem S_app (a b : L) : S a ++ S b = S (a ++ b) := cp_inj (by rw [cp_app, cp_S, cp_S, cp_S])
theorem join_jn : ∀ ts : List L, TL.joinL [32] ts = jn ts
  | [] => rfl
  | [_] => rfl
  | t :: u :: r => by
    show t ++ ([32] ++ TL.joinL [32] (u :: r)) = t ++ (32 :: jn (u :: r))
    rw [join_jn (u :: r)]
    rfl
theorem join_S (ts : List L) : Txt.join " " (ts.map S) = S (jn ts) := cp_inj (by
  rw [cp_S]
  show TL.tl _ = _
  rw [TL.join_eq, TL.tl_join, List.map_map, show TL.tl ∘ S = id from rfl, List.map_id, ← join_jn]
  congr 1)
theorem vl_map (ts : List L) : vl ts = (ts.map S).map V.str := by
  unfold vl
  rw [List.map_map]
  rfl
theorem text_of : ∀ {xs : List V}, xs.all (ofS isTok) = true → ∃ ts : List L, xs = vl ts ∧ ∀ t ∈ ts, isTok t = true
  | [], _ => ⟨[], rfl, by simp⟩
  | v :: vs, h => by
    rw [List.all_cons, Bool.and_eq_true] at h
    obtain ⟨x, rfl, hx⟩ := num_str h.1
    obtain ⟨ts, rfl, ht⟩ := text_of h.2
    refine ⟨cp x :: ts, ?_, fun t hm => ?_⟩
    · show _ = V.str (S (cp x)) :: vl ts
      rw [S_cp]
    · rcases List.mem_cons.mp hm with rfl | hm
      · exact hx
      · exact ht t hm
theorem lens_sum : ∀ (ts : List L), (∀ t ∈ ts, t.length ≤ 9) → ((ts.map S).map (·.length)).sum ≤ 9 * ts.length
  | [], _ => by simp
  | t :: ts, h => by
    have h1 := h t List.mem_cons_self
    have h2 := lens_sum ts fun u hu => h u (List.mem_cons_of_mem _ hu)
    rw [List.map_cons, List.map_cons, List.sum_cons, S_len, List.length_cons]
    omega
section
variable {P : Program} {w : World} {K : PySem.W.Frag} {mg : Str → Option Value} {base : Heap} {C T I : Addr}
/-- a line of a text, or refused -/
def spLine (K : PySem.W.Frag) (C : Addr) (f : List L → L) : Sp := fun vs H Q E => ∃ (v : V) (b : Bool), vs = [v] ∧ TxV K H v b ∧
  (b = true → ∀ (a : Addr) (ts : List L), v = .ref a → H a = some (.lst (vl ts)) → (∀ t ∈ ts, isTok t = true) → ts.length ≤ 1000 → ∀ H', Same H H' → Q (.str (S (f ts))) H') ∧ (b = false → Refuses C H v E)
theorem line_true {H : Hp} {v : V} (h : TxV K H v true) : ∃ (a : Addr) (ts : List L), v = .ref a ∧ H a = some (.lst (vl ts)) ∧ (∀ t ∈ ts, isTok t = true) ∧ ts.length ≤ 1000 := by
  rcases h with ⟨a, xs, rfl, e, hz, _, hb⟩ | ⟨_, hb⟩
  · obtain ⟨ts, rfl, ht⟩ := text_of hb.symm
    refine ⟨a, ts, rfl, e, ht, ?_⟩
    unfold vl at hz
    rw [List.length_map] at hz
    exact hz
  · cases hb
theorem ok_lineOf {f fQ : Addr} {fd dQ : FuncData} (F : Fun K "line_of" "line_of" sLineOf f fd) (kQ : PySem.W.keepIn K (.ref fQ) = true) (GQ : FnOk P w K mg base (L2.CX P w) 6 fQ dQ ["text"] (spReq K C)) (bQ : Binds K dQ ["text"] []) (gQ : mg "require_text" = some (.ref fQ)) :
    FnOk P w K mg base (L2.CX P w) 7 f fd ["text"] (spLine K C jn) := by
  refine F.okX scLineOf (fun vs H Q E h => ?_) (fun cdv A outer s H vs Q E hr h => ?_)
  · obtain ⟨v, b, rfl, _⟩ := h
    rfl
  · obtain ⟨v, b, rfl, hv, q1, q2⟩ := h
    refine ⟨_, pss_cons (ps_expr (pe_callS GQ hr (by rfl) gQ kQ bQ (fun σ => passAt (takes_of rfl rfl rfl rfl) σ) (pa_cons (pv 0) pa_nil))) (pss_one (ps_ret (pe_join pe_str (pv 0)))), ?_⟩
    refine ⟨v, rfl, v, b, rfl, hv, fun hb H1 s1 => ?_, q2⟩
    subst hb
    obtain ⟨a, ts, rfl, e, ht, hn⟩ := line_true hv
    refine ⟨⟨_, rfl⟩, .ref a, rfl, " ", a, ts.map S, rfl, rfl, .inl (SqL.of ?_), ?_, ?_⟩
    · rw [← vl_map]
      exact s1 _ _ e
    · have := lens_sum ts fun t h => (Ln.tok_of (ht t h)).2
      rw [List.length_map, show (Str.ofString " ").length = 1 from by decide +kernel]
      omega
    · rw [join_S]
      exact q1 rfl a ts rfl e ht hn H1 s1
def spTog : Sp := fun vs H Q _ => ∃ x y : Str, vs = [.str x, .str y] ∧ x.length ≤ 100000 ∧ y.length ≤ 100000 ∧ ∀ H', Same H H' → Q (.bl (together (cp x) (cp y))) H'
theorem ok_tog {f fW fN fQ : Addr} {fd dW dN dQ : FuncData} (F : Fun K "run_together" "run_together" sTog f fd)
    (kW : PySem.W.keepIn K (.ref fW) = true) (GW : FnOk P w K mg base CX0 2 fW dW ["value"] (spTok K isWord)) (bW : Binds K dW ["value"] []) (gW : mg "is_word" = some (.ref fW))
    (kN : PySem.W.keepIn K (.ref fN) = true) (GN : FnOk P w K mg base CX0 2 fN dN ["value"] (spTok K isNum)) (bN : Binds K dN ["value"] []) (gN : mg "is_number" = some (.ref fN))
    (kQ : PySem.W.keepIn K (.ref fQ) = true) (GQ : FnOk P w K mg base CX0 3 fQ dQ ["value"] (spTok K isQuoted)) (bQ : Binds K dQ ["value"] []) (gQ : mg "is_quoted" = some (.ref fQ)) : FnOk P w K mg base CX0 4 f fd ["token", "after"] spTog := by
  refine F.ok scTog (fun vs H Q E h => ?_) (fun cdv A outer s H vs Q E hr h => ?_)
  · obtain ⟨x, y, rfl, _⟩ := h
    rfl
  · obtain ⟨x, y, rfl, hx, hy, q⟩ := h
    have hr2 := hr.mono (by decide : 2 ≤ 3)
    refine ⟨_, pss_cons (ps_if (pt_val (pe_call GW hr2 (by rfl) gW kW bW .nil pass0 (pa_cons (pv 1) pa_nil))) (pss_one (ps_ret (pe_or (pe_call GW hr2 (by rfl) gW kW bW .nil pass0 (pa_cons (pv 0) pa_nil)) (pe_one (pe_call GQ hr (by rfl) gQ kQ bQ .nil pass0 (pa_cons (pv 0) pa_nil)))))) pss_nil)
      (pss_one (ps_ret (pe_and (pe_call GN hr2 (by rfl) gN kN bN .nil pass0 (pa_cons (pv 0) pa_nil)) (pe_one (pe_call GN hr2 (by rfl) gN kN bN .nil pass0 (pa_cons (pv 1) pa_nil)))))), ?_⟩
    have px : ∀ H' : Hp, Plain K H' (.str x) := fun H' => .inl ⟨x, rfl, hx⟩
    have py : ∀ H' : Hp, Plain K H' (.str y) := fun H' => .inl ⟨y, rfl, hy⟩
    refine ⟨.str y, rfl, .str y, rfl, py _, fun H1 s1 => ⟨_, rfl, ?_⟩⟩
    show (if isWord (cp y) = true then _ else _)
    cases c1 : isWord (cp y) with
    | true =>
      refine iteT ⟨.str x, rfl, .str x, rfl, px _, fun H2 s2 => ⟨_, rfl, ?_⟩⟩
      have q2 := q H2 (s1.trans s2)
      unfold together at q2
      rw [if_pos c1] at q2
      show (if isWord (cp x) = true then _ else _)
      cases c2 : isWord (cp x) with
      | true =>
        rw [c2, Bool.true_or] at q2
        exact iteT q2
      | false =>
        refine iteF ⟨.str x, rfl, .str x, rfl, px _, fun H3 s3 => ?_⟩
        have q3 := q H3 ((s1.trans s2).trans s3)
        unfold together at q3
        rw [if_pos c1, c2, Bool.false_or] at q3
        exact q3
    | false =>
      refine iteF ⟨.str x, rfl, .str x, rfl, px _, fun H2 s2 => ⟨_, rfl, ?_⟩⟩
      have q2 := q H2 (s1.trans s2)
      unfold together at q2
      rw [if_neg (by rw [c1]; decide)] at q2
      show (if isNum (cp x) = true then _ else _)
      cases c2 : isNum (cp x) with
      | true =>
        refine iteT ⟨.str y, rfl, .str y, rfl, py _, fun H3 s3 => ?_⟩
        have q3 := q H3 ((s1.trans s2).trans s3)
        unfold together at q3
        rw [if_neg (by rw [c1]; decide), c2, Bool.true_and] at q3
        exact q3
      | false =>
        rw [c2, Bool.false_and] at q2
        exact iteF q2
theorem lineTo_len {ts : List L} {g : Nat → Nat} {G : Nat} (hg : ∀ i, g i ≤ G) (ht : ∀ t ∈ ts, t.length ≤ 9) : ∀ i, (lineTo ts g i).length ≤ i * (G + 10)
  | 0 => by simp [lineTo]
  | i + 1 => by
    have h1 := lineTo_len hg ht i
    have h2 : (ts.getD i []).length ≤ 9 := by
      rw [List.getD_eq_getElem?_getD]
      cases e : ts[i]? with
      | none => simp
      | some t => exact ht t (List.mem_of_getElem? e)
    have h3 := hg i
    have h4 : (if need ts i then 1 else 0) ≤ 1 := by split <;> omega
    show (lineTo ts g i ++ (List.replicate _ 32 ++ ts.getD i [])).length ≤ _
    rw [List.length_append, List.length_append, List.length_replicate, Nat.succ_mul]
    omega
/-- the tight line, token by token -/
def tightL (ts : List L) : L := lineTo ts (fun _ => 0) ts.length
theorem ok_tight {f fQ fG : Addr} {fd dQ dG : FuncData} (F : Fun K "tight_line" "tight_line" sTight f fd) (kQ : PySem.W.keepIn K (.ref fQ) = true) (GQ : FnOk P w K mg base (L2.CX P w) 6 fQ dQ ["text"] (spReq K C)) (bQ : Binds K dQ ["text"] []) (gQ : mg "require_text" = some (.ref fQ))
    (kG : PySem.W.keepIn K (.ref fG) = true) (GG : FnOk P w K mg base CX0 4 fG dG ["token", "after"] spTog) (bG : Binds K dG ["token", "after"] []) (gG : mg "run_together" = some (.ref fG)) (men : mg "enumerate" = none) :
    FnOk P w K mg base (L2.CX P w) 7 f fd ["text"] (spLine K C tightL) := by
  refine F.okX scTight (fun vs H Q E h => ?_) (fun cdv A outer s H vs Q E hr h => ?_)
  · obtain ⟨v, b, rfl, _⟩ := h
    rfl
  · obtain ⟨v, b, rfl, hv, q1, q2⟩ := h
    have nd := scTight.nd
    refine ⟨_, pss_cons (ps_expr (pe_callS GQ hr (by rfl) gQ kQ bQ (fun σ => passAt (takes_of rfl rfl rfl rfl) σ) (pa_cons (pv 0) pa_nil)))
      (PSs.nox (pss_cons (ps_set (i := 1) nd rfl (.inl rfl) pe_str)
      (pss_cons (ps_for PassesOwn.never rfl (pi_enum (by rfl) men (pa_cons (pv 0) pa_nil)) (pg_tup (by rfl) (pgs_cons (pg_name (i := 2) nd rfl (.inl rfl)) (pgs_cons (pg_name (i := 3) nd rfl (.inl rfl)) pgs_nil)))
          (pss_cons (ps_if (PW.pt (pw_and (pt_cmpR op_gt (pv 2) pe_int (nomark _)) (pw_and1 (pt_val (pe_call GG (hr.mono (by decide)) (by rfl) gG kG bG .nil pass0 (pa_cons (pe_ix ix_list (pv 0) (pe_op op_sub (pv 2) pe_int) (fun _ _ => rfl)) (pa_cons (pv 3) pa_nil)))))))
            (pss_one (ps_aug (i := 1) nd rfl (.inl rfl) pe_str ip_addS)) pss_nil)
          (pss_one (ps_aug (i := 1) nd rfl (.inl rfl) (pv 3) ip_addS))))
      (pss_one (ps_ret (pv 1)))))), ?_⟩
    refine ⟨v, rfl, v, b, rfl, hv, fun hb H1 s1 => ?_, q2⟩
    subst hb
    obtain ⟨a, ts, rfl, e, ht, hn⟩ := line_true hv
    have h9 : ∀ t ∈ ts, t.length ≤ 9 := fun t h => (Ln.tok_of (ht t h)).2
    have big : (100000 : Nat) ≤ sizeLine := sz _ (Nat.le_refl _)
    have nlen : (vl ts).length = ts.length := by unfold vl; rw [List.length_map]
    refine ⟨.ref a, rfl, a, vl ts, rfl, SqL.of (s1 _ _ e), for_it walk_enum (fun i σ H' => Same H H' ∧ ∃ y2 y3 : Option V, σ = [some (.ref a), some (.str (S (lineTo ts (fun _ => 0) i))), y2, y3]) ⟨s1, none, none, rfl⟩ (fun i σ H' _ h => SqL.of (h.1 _ _ e)) ?_ ?_⟩
    · rintro i y σ H2 H3 hi ⟨s2, y2, y3, rfl⟩ ⟨t, z1, z2, rfl, nt, rfl, hz1, hz2⟩
      cases hz1
      have hi' : i < ts.length := by rw [← nlen]; exact hi
      obtain ⟨u, hu⟩ : ∃ u, ts[i]? = some u := ⟨_, List.getElem?_eq_getElem hi'⟩
      have hgu : ts.getD i [] = u := by rw [List.getD_eq_getElem?_getD, hu]; rfl
      have hz : z2 = .str (S u) := by
        have : (vl ts)[i]? = some (.str (S u)) := by unfold vl; rw [List.getElem?_map, hu]; rfl
        have hz3 : (vl ts)[i]? = some z2 := hz2
        rw [this] at hz3
        exact (Option.some.inj hz3).symm
      subst hz
      have hmu := List.mem_of_getElem? hu
      have s3 := s2.trans (same_upd (o := .tup [.int i, .str (S u)]) nt)
      have hlen := lineTo_len (G := 0) (g := fun _ => 0) (fun _ => Nat.le_refl _) h9 i
      have hlu := h9 u hmu
      have step : ∀ (D : Ends), (∀ σ' H', (Same H H' ∧ ∃ y2 y3 : Option V, σ' = [some (.ref a), some (.str (S (lineTo ts (fun _ => 0) (i + 1)))), y2, y3]) → D.nx σ' H') → ∀ (b : Bool), need ts i = b → ∀ (H4 : Hp), Same H H4 →
          tAug 1 (tVar 3) rAddS D [some (.ref a), some (.str (S (lineTo ts (fun _ => 0) i ++ List.replicate (if b then 1 else 0) 32))), some (.int i), some (.str (S u))] H4 := by
        intro D hD b hb H4 s4
        refine ⟨_, rfl, .str (S u), rfl, _, _, rfl, rfl, ?_, hD _ _ ⟨s4, some (.int i), some (.str (S u)), ?_⟩⟩
        · rw [S_len, S_len, List.length_append, List.length_replicate]
          have : (if b then 1 else 0) ≤ 1 := by split <;> omega
          omega
        · rw [S_app]
          show _ = [some (V.ref a), some (V.str (S (lineTo ts (fun _ => 0) i ++ (List.replicate (0 + (if need ts i then 1 else 0)) 32 ++ ts.getD i [])))), some (V.int i), some (V.str (S u))]
          rw [hb, hgu, Nat.zero_add, List.append_assoc]
          rfl
      refine ⟨t, _, rfl, SqT.of upd_same, rfl, _, _, rfl, _, _, rfl, rfl, ?_⟩
      refine ⟨_, rfl, _, _, rfl, rfl, _, rfl, ite2 (fun c1 => ?_) (fun c1 => ?_)⟩
      · have i0 : 0 < i := by
          have := of_decide_eq_true c1
          omega
        obtain ⟨u0, hu0⟩ : ∃ u, ts[i - 1]? = some u := ⟨_, List.getElem?_eq_getElem (by omega)⟩
        have hgu0 : ts.getD (i - 1) [] = u0 := by rw [List.getD_eq_getElem?_getD, hu0]; rfl
        have hlu0 := h9 u0 (List.mem_of_getElem? hu0)
        have ev : (vl ts)[i - 1]? = some (.str (S u0)) := by unfold vl; rw [List.getElem?_map, hu0]; rfl
        refine ⟨.ref a, rfl, _, rfl, _, _, rfl, rfl, a, vl ts, (i : Int) - 1, .str (S u0), rfl, rfl, SqL.of (s3 _ _ e), ?_, ?_⟩
        · have := atI_nat (xs := vl ts) (j := i - 1) ev
          rw [show (((i - 1 : Nat)) : Int) = (i : Int) - 1 by omega] at this
          exact this
        refine ⟨.str (S u), rfl, S u0, S u, rfl, by rw [S_len]; omega, by rw [S_len]; omega, fun H4 s4 => ⟨_, rfl, ?_⟩⟩
        rw [cp_S, cp_S, Ln.together_joined (ht u0 (List.mem_of_getElem? hu0)) (ht u hmu)]
        have hne : need ts i = joined u0 u := by
          unfold need
          rw [decide_eq_true i0, hgu0, hgu, Bool.true_and]
        cases hj : joined u0 u with
        | true =>
          refine iteT ⟨_, rfl, _, _, rfl, rfl, ?_, ?_⟩
          · rw [S_len, show (Str.ofString " ").length = 1 from by decide +kernel]
            omega
          · rw [show (Str.ofString " ") = S [32] from cp_inj (by decide +kernel), S_app]
            exact step _ (fun _ _ h => h) true (hne.trans hj) H4 (s3.trans s4)
        | false =>
          have := fun D hD => step D hD false (hne.trans hj) H4 (s3.trans s4)
          rw [show (List.replicate (if false = true then 1 else 0) 32 : L) = [] from rfl, List.append_nil] at this
          exact iteF (this _ fun _ _ h => h)
      · have i0 : i = 0 := by
          have : ¬ 0 < i := fun h => c1 (decide_eq_true (by omega))
          omega
        have hne : need ts i = false := by
          unfold need
          rw [decide_eq_false (by omega), Bool.false_and]
        have := fun D hD => step D hD false hne _ s3
        rw [show (List.replicate (if false = true then 1 else 0) 32 : L) = [] from rfl, List.append_nil] at this
        exact iteF (this _ fun _ _ h => h)
    · rintro σ H2 ⟨s2, y2, y3, rfl⟩
      refine ⟨_, rfl, ?_⟩
      rw [nlen]
      exact q1 rfl a ts rfl e ht hn H2 s2
end
end K2

set_option Elab.async false
set_option linter.all false
set_option maxRecDepth 100000
set_option maxHeartbeats 8000000
/-! k02: the law's exact likeness, of equal data -/
namespace K2
open PySem PySem.Spec PyProof.Rows L2 EL LW RZ
open Ln (L)
open PySem.EV (ErrC ErrI)
abbrev sExact : Stmt := topS 83
abbrev nX : List Str := ["_law_one", "_law_other", "_law_alike", "_law_a", "_law_b", "_law_key"]
theorem scExact : FnScope nX ["_law_one", "_law_other"] (defScope sExact) := ⟨rfl, rfl, rfl, by decide +kernel, rfl, by decide +kernel, by decide +kernel⟩
theorem boot_tuple : bootBuiltins (Str.ofString "tuple") = some (.type "tuple") := by decide +kernel
theorem boot_dict : bootBuiltins (Str.ofString "dict") = some (.type "dict") := by decide +kernel
theorem boot_bool : bootBuiltins (Str.ofString "bool") = some (.type "bool") := by decide +kernel
/-- a datum without parts -/
inductive Atom : V → String → Prop
  | non : Atom .non "NoneType"
  | bl (b : Bool) : Atom (.bl b) "bool"
  | int (i : Int) : Atom (.int i) "int"
  | str (x : Str) : Atom (.str x) "str"
theorem Atom.ty {K : PySem.W.Frag} {H : Hp} {v : V} {n : String} (h : Atom v n) : TyX K H v (.type n) := by
  cases h with
  | non => exact .base .non
  | bl b => exact .base (.bl b)
  | int i => exact .base (.int i)
  | str x => exact .base (.str x)
/-- equal data at a heap, at most so deep -/
def Eqv (H : Hp) : Nat → V → V → Prop
  | 0, v, w => (∃ n, Atom v n) ∧ v = w
  | k + 1, v, w => ((∃ n, Atom v n) ∧ v = w) ∨ (∃ (a b : Addr) (xs ys : List V), v = .ref a ∧ w = .ref b ∧ ((H a = some (.lst xs) ∧ H b = some (.lst ys)) ∨ (H a = some (.tup xs) ∧ H b = some (.tup ys))) ∧ Paired (Eqv H k) xs ys ∧ xs.length ≤ 1000) ∨
      (∃ (a : Addr) (kvs : List (Key × V)), 1 ≤ k ∧ v = .ref a ∧ w = .ref a ∧ H a = some (.dK kvs) ∧ kvs.length ≤ 1000 ∧ ∀ kv ∈ kvs, (∃ i, kv.2 = .int i) ∧ valV kvs kv.1 = some kv.2)
theorem Eqv.same {H H' : Hp} (s : Same H H') : ∀ {k : Nat} {v w : V}, Eqv H k v w → Eqv H' k v w
  | 0, _, _, h => h
  | k + 1, _, _, h => by
    rcases h with h | ⟨a, b, xs, ys, e1, e2, h, p, z⟩ | ⟨a, kvs, h1, e1, e2, h2, h3⟩
    · exact .inl h
    · exact .inr (.inl ⟨a, b, xs, ys, e1, e2, h.imp (fun q => ⟨s _ _ q.1, s _ _ q.2⟩) (fun q => ⟨s _ _ q.1, s _ _ q.2⟩), Paired.mapP p fun _ _ q => Eqv.same s q, z⟩)
    · exact .inr (.inr ⟨a, kvs, h1, e1, e2, s _ _ h2, h3⟩)
theorem atom_eqv {H : Hp} {v : V} {n : String} (h : Atom v n) : ∀ k, Eqv H k v v
  | 0 => ⟨⟨n, h⟩, rfl⟩
  | _ + 1 => .inl ⟨⟨n, h⟩, rfl⟩
theorem paired_len {α β : Type} {F : α → β → Prop} {a : List α} {b : List β} (h : Paired F a b) : a.length = b.length := Paired.length h
theorem paired_at {α β : Type} {F : α → β → Prop} : ∀ {a : List α} {b : List β} {i : Nat} {x : α} {y : β}, Paired F a b → a[i]? = some x → b[i]? = some y → F x y
  | _, _, _, _, _, .nil, h, _ => by simp at h
  | _, _, 0, _, _, .cons r _, h, h2 => by
    simp at h h2
    subst h h2
    exact r
  | _, _, i + 1, _, _, .cons _ t, h, h2 => paired_at (i := i) t (by simpa using h) (by simpa using h2)
section
variable {K : PySem.W.Frag} {a b : Addr} {xs ys : List V}
theorem walk_zipT {n : Nat} (hn : n = min xs.length ys.length) : Walk (ItzT K a b) n (fun H => SqT K H a xs ∧ SqT K H b ys) (YPair (fun i => xs[i]?) (fun i => ys[i]?)) := by
  subst hn
  refine ⟨fun i _ hi q => ?_, fun _ q => ⟨xs, ys, q.1, q.2, by omega⟩, fun i H v H' _ q y => ?_⟩
  · have h1 : i < xs.length := by omega
    have h2 : i < ys.length := by omega
    exact ⟨xs, ys, xs[i], ys[i], q.1, q.2, by simp [h1], by simp [h2]⟩
  · obtain ⟨T, x, z, h1, h2, h3, h4, h5⟩ := y
    exact ⟨T, x, z, h1, h2, h3, h4 xs q.1, h5 ys q.2⟩
end
/-- kitAny of list and tuple, by the name -/
theorem kit_seq {K : PySem.W.Frag} {n : String} {b1 b2 r : Bool} (h1 : kitB n "list" = some b1) (h2 : kitB n "tuple" = some b2) (hr : (b1 || b2) = r) : PySem.W.kitAny K (.type n) [.type "list", .type "tuple"] = some r := by
  subst hr
  refine kitAny_cons (kit_ty h1) (fun e => ?_) (fun e => by rw [e]; rfl)
  subst e
  refine kitAny_cons (kit_ty h2) (fun e => ?_) (fun e => by rw [e]; rfl)
  subst e
  exact kitAny_nil
theorem eqv_cases {H : Hp} : ∀ {n : Nat} {v u : V}, Eqv H n v u → ((∃ m, Atom v m) ∧ v = u) ∨
    (∃ (k : Nat) (a a2 : Addr) (xs ys : List V), n = k + 1 ∧ v = .ref a ∧ u = .ref a2 ∧ ((H a = some (.lst xs) ∧ H a2 = some (.lst ys)) ∨ (H a = some (.tup xs) ∧ H a2 = some (.tup ys))) ∧ Paired (Eqv H k) xs ys ∧ xs.length ≤ 1000) ∨
    (∃ (k : Nat) (a : Addr) (kvs : List (Key × V)), n = k + 1 ∧ 1 ≤ k ∧ v = .ref a ∧ u = .ref a ∧ H a = some (.dK kvs) ∧ kvs.length ≤ 1000 ∧ ∀ kv ∈ kvs, (∃ i, kv.2 = .int i) ∧ valV kvs kv.1 = some kv.2)
  | 0, _, _, h => .inl h
  | k + 1, _, _, h => by
    rcases h with h | ⟨a, b, xs, ys, h⟩ | ⟨a, kvs, h⟩
    · exact .inl h
    · exact .inr (.inl ⟨k, a, b, xs, ys, rfl, h⟩)
    · exact .inr (.inr ⟨k, a, kvs, rfl, h⟩)
theorem atom_seq {K : PySem.W.Frag} {v : V} {m : String} (h : Atom v m) : PySem.W.kitAny K (.type m) [.type "list", .type "tuple"] = some false := by
  cases h <;> exact kit_seq (b1 := false) (b2 := false) (by decide +kernel) (by decide +kernel) rfl
theorem atom_dict {K : PySem.W.Frag} {v : V} {m : String} (h : Atom v m) : PySem.W.kitOne K (.type m) (.type "dict") = some false := by
  cases h <;> exact kit_ty (by decide +kernel)
theorem atom_bool {K : PySem.W.Frag} {v : V} {m : String} (h : Atom v m) : ∃ b, PySem.W.kitOne K (.type m) (.type "bool") = some b := by
  cases h with
  | non => exact ⟨false, kit_ty (by decide +kernel)⟩
  | bl b => exact ⟨true, kit_ty (by decide +kernel)⟩
  | int i => exact ⟨false, kit_ty (by decide +kernel)⟩
  | str x => exact ⟨false, kit_ty (by decide +kernel)⟩
theorem atom_scal {v : V} {m : String} (h : Atom v m) : scal v v = true := by cases h <;> rfl
theorem paired_keys {H : Hp} : ∀ (kvs : List (Key × V)) (k : Nat), Paired (Eqv H k) (kvs.map fun kv => kV kv.1) (kvs.map fun kv => kV kv.1)
  | [], _ => .nil
  | (.inl i, _) :: r, k => .cons (atom_eqv (.int i) k) (paired_keys r k)
  | (.inr x, _) :: r, k => .cons (atom_eqv (.str x) k) (paired_keys r k)
section
variable {P : Program} {w : World} {K : PySem.W.Frag} {mg : Str → Option Value} {base : Heap} {C T I : Addr}
def spX : Nat → Sp
  | 0 => fun _ _ _ _ => False
  | k + 1 => fun vs H Q _ => ∃ v u : V, vs = [v, u] ∧ Eqv H k v u ∧ ∀ H', Same H H' → Q (.bl true) H'
/-- the built-in names that it needs -/
structure Nms (mg : Str → Option Value) : Prop where
  isi : mg "isinstance" = none
  str : mg "str" = none
  list : mg "list" = none
  tuple : mg "tuple" = none
  dict : mg "dict" = none
  bool : mg "bool" = none
  len : mg "len" = none
  all : mg "all" = none
  zip : mg "zip" = none
theorem ok_exact {f : Addr} {fd : FuncData} (F : Fun K "_law_exact" "_law_exact" sExact f fd) (b : Binds K fd ["_law_one", "_law_other"] []) (g : mg "_law_exact" = some (.ref f)) (N : Nms mg) : ∀ n, FnOk P w K mg base CX0 n f fd ["_law_one", "_law_other"] (spX n)
  | 0 => ⟨fun _ _ _ _ h => h.elim, fun _ _ _ _ _ _ _ _ _ _ _ _ _ h => h.elim⟩
  | n + 1 => by
    have G := ok_exact F b g N n
    have kf := F.kp
    refine F.ok scExact (fun vs H Q E h => ?_) (fun cdv A outer s H vs Q E hr h => ?_)
    · obtain ⟨v, u, rfl, _⟩ := h
      rfl
    · obtain ⟨v, u, rfl, hv, q⟩ := h
      have nd := scExact.nd
      have hu := hu_of hr
      refine ⟨_, pss_cons (ps_if (pt_val (pe_callB call_isiT (by rfl) N.isi boot_isi (pa_cons (pv 0) (pa_cons (pe_tup (pa_cons (pe_bltn (v := .ty "list") (by rfl) N.list boot_list rfl) (pa_cons (pe_bltn (v := .ty "tuple") (by rfl) N.tuple boot_tuple rfl) pa_nil))) pa_nil))))
          (pss_cons (ps_set (i := 2) nd rfl (.inl rfl) (pe_and (pe_cmpR op_eq (pe_callB call_isi (by rfl) N.isi boot_isi (pa_cons (pv 1) (pa_cons (pe_bltn (v := .ty "list") (by rfl) N.list boot_list rfl) pa_nil))) (pe_callB call_isi (by rfl) N.isi boot_isi (pa_cons (pv 0) (pa_cons (pe_bltn (v := .ty "list") (by rfl) N.list boot_list rfl) pa_nil))) (nomark _))
            (pe_one (pe_cmpR op_eq (pe_callB call_isi (by rfl) N.isi boot_isi (pa_cons (pv 1) (pa_cons (pe_bltn (v := .ty "tuple") (by rfl) N.tuple boot_tuple rfl) pa_nil))) (pe_callB call_isi (by rfl) N.isi boot_isi (pa_cons (pv 0) (pa_cons (pe_bltn (v := .ty "tuple") (by rfl) N.tuple boot_tuple rfl) pa_nil))) (nomark _)))))
          (pss_one (ps_ret (pe_and (pv 2) (pe_and (pe_cmpR op_eq (pe_callB call_len_seq (by rfl) N.len PySem.boot_len (pa_cons (pv 0) pa_nil)) (pe_callB call_len_seq (by rfl) N.len PySem.boot_len (pa_cons (pv 1) pa_nil)) (nomark _))
            (pe_one (pe_callB (cr_all rfl) (by rfl) N.all boot_all (pa_cons (pe_lc (own := [("_law_a", 3), ("_law_b", 4)]) (g := gTup K 2 (gCons (gName 3) (gCons (gName 4) gNil))) (tt := tYes) rfl nd (pi_zipA (by rfl) N.zip (pa_cons (pv 0) (pa_cons (pv 1) pa_nil)))
              (blkOk_by (own := [("_law_a", 3), ("_law_b", 4)]) (N := nX) (sc := defScope sExact) (by decide +kernel)) (fun _ _ _ _ _ => pg_tup (by rfl) (pgs_cons (pg_name (i := 3) nd rfl (Or.inl rfl)) (pgs_cons (pg_name (i := 4) nd rfl (Or.inl rfl)) pgs_nil))) (fun _ _ _ _ _ => pts_nil)
              (fun _ _ _ _ _ => pe_call G hr (by rfl) g kf b .nil pass0 (pa_cons (pv 3) (pa_cons (pv 4) pa_nil)))) pa_nil)))))))) pss_nil)
        (pss_cons (ps_if (pt_val (pe_callB call_isi (by rfl) N.isi boot_isi (pa_cons (pv 0) (pa_cons (pe_bltn (v := .ty "dict") (by rfl) N.dict boot_dict rfl) pa_nil))))
          (pss_cons (ps_set (i := 2) nd rfl (.inl rfl) (pe_and (pe_callB call_isi (by rfl) N.isi boot_isi (pa_cons (pv 1) (pa_cons (pe_bltn (v := .ty "dict") (by rfl) N.dict boot_dict rfl) pa_nil)))
            (pe_one (pe_call G hr (by rfl) g kf b .nil pass0 (pa_cons (pe_callTy (call_list_dK rfl) (by rfl) N.list boot_list (pa_cons (pv 0) pa_nil)) (pa_cons (pe_callTy (call_list_dK rfl) (by rfl) N.list boot_list (pa_cons (pv 1) pa_nil)) pa_nil))))))
          (pss_one (ps_ret (pe_and (pv 2) (pe_one (pe_callB (cr_all rfl) (by rfl) N.all boot_all (pa_cons (pe_lock (pe_lc (own := [("_law_key", 5)]) (g := gName 5) (tt := tYes) rfl nd (pi_keys (pv 0))
              (blkOk_by (own := [("_law_key", 5)]) (N := nX) (sc := defScope sExact) (by decide +kernel)) (fun _ _ _ _ _ => pg_name (i := 5) nd rfl (Or.inl rfl)) (fun _ _ _ _ _ => pts_nil)
              (fun _ _ _ _ _ => pe_call G hr (by rfl) g kf b .nil pass0 (pa_cons (pe_dget hu (pv 0) (pv 5) (fun _ _ => rfl)) (pa_cons (pe_dget hu (pv 1) (pv 5) (fun _ _ => rfl)) pa_nil))))) pa_nil))))))) pss_nil)
        (pss_one (ps_ret (pe_and (pe_cmpR op_eq (pe_callB call_isi (by rfl) N.isi boot_isi (pa_cons (pv 0) (pa_cons (pe_bltn (v := .ty "bool") (by rfl) N.bool boot_bool rfl) pa_nil))) (pe_callB call_isi (by rfl) N.isi boot_isi (pa_cons (pv 1) (pa_cons (pe_bltn (v := .ty "bool") (by rfl) N.bool boot_bool rfl) pa_nil))) (nomark _))
          (pe_one (pe_cmpR op_eq (pv 0) (pv 1) (nomark _))))))), ?_⟩
      rcases eqv_cases hv with ⟨⟨m, hm⟩, rfl⟩ | ⟨k, a, a2, xs, ys, rfl, rfl, rfl, ⟨ha, hb⟩ | ⟨ha, hb⟩, hp, hz⟩ | ⟨k, a, kvs, rfl, hk, rfl, rfl, ha, hz, hkv⟩
      · -- no parts
        obtain ⟨bb, kb⟩ := atom_bool (K := K) hm
        refine ⟨v, rfl, sz 2 (by decide), fun tp ntp => ?_⟩
        have s1 := same_upd (o := .tup [.ty "list", .ty "tuple"]) ntp
        refine ⟨_, tp, [.ty "list", .ty "tuple"], _, _, false, rfl, upd_same, .cons (ClsV.ty _) (.cons (ClsV.ty _) .nil), hm.ty, atom_seq hm, false, rfl, iteF ?_⟩
        refine ⟨v, rfl, _, _, _, _, false, rfl, ClsV.ty _, hm.ty, atom_dict hm, false, rfl, iteF ?_⟩
        refine ⟨v, rfl, _, _, _, _, bb, rfl, ClsV.ty _, hm.ty, kb, v, rfl, _, _, _, _, bb, rfl, ClsV.ty _, hm.ty, kb, rfl, true, ?_, iteT ⟨v, rfl, v, rfl, atom_scal hm, ?_⟩⟩
        · rw [decide_eq_true rfl]
        · rw [decide_eq_true rfl]
          exact q _ s1
      · -- lists
        have kab : PySem.W.kitAny K (.type "list") [.type "list", .type "tuple"] = some true := kit_seq (b1 := true) (b2 := false) (by decide +kernel) (by decide +kernel) rfl
        have tyA : ∀ H', Same H H' → TyX K H' (.ref a) (.type "list") := fun H' s' => .base (.lst (s' _ _ ha))
        have tyB : ∀ H', Same H H' → TyX K H' (.ref a2) (.type "list") := fun H' s' => .base (.lst (s' _ _ hb))
        refine ⟨.ref a, rfl, sz 2 (by decide), fun tp ntp => ?_⟩
        have s1 := same_upd (o := .tup [.ty "list", .ty "tuple"]) ntp
        refine ⟨_, tp, [.ty "list", .ty "tuple"], _, _, true, rfl, upd_same, .cons (ClsV.ty _) (.cons (ClsV.ty _) .nil), tyA _ s1, kab, true, rfl, iteT ?_⟩
        refine ⟨.ref a2, rfl, _, _, _, _, true, rfl, ClsV.ty _, tyB _ s1, kit_ty (by decide +kernel), .ref a, rfl, _, _, _, _, true, rfl, ClsV.ty _, tyA _ s1, kit_ty (by decide +kernel), rfl, true, rfl, iteT ?_⟩
        refine ⟨.ref a2, rfl, _, _, _, _, false, rfl, ClsV.ty _, tyB _ s1, kit_ty (by decide +kernel), .ref a, rfl, _, _, _, _, false, rfl, ClsV.ty _, tyA _ s1, kit_ty (by decide +kernel), rfl, ?_⟩
        refine ⟨.bl true, rfl, true, rfl, iteT ⟨.ref a, rfl, a, xs, rfl, .inl (SqL.of (s1 _ _ ha)), .ref a2, rfl, a2, ys, rfl, .inl (SqL.of (s1 _ _ hb)), rfl, true, ?_, iteT ?_⟩⟩
        · show V.bl (decide (V.int (xs.length : Int) = V.int (ys.length : Int))) = V.bl true
          rw [paired_len hp, decide_eq_true rfl]
        refine ⟨.ref a, rfl, .ref a2, rfl, a, a2, xs, ys, rfl, .inl ⟨SqL.of (s1 _ _ ha), SqL.of (s1 _ _ hb), fun D nD => ?_⟩⟩
        refine lc_it (walk_zip (n := xs.length) (by rw [paired_len hp]; exact (Nat.min_self _).symm)) (fun i H' => Same H H' ∧ H' D = some (.lst ((List.replicate i true).map V.bl))) ⟨s1.trans (same_upd nD), upd_same⟩ (fun i H' _ h => ⟨SqL.of (h.1 _ _ ha), SqL.of (h.1 _ _ hb)⟩) ?_ ?_
        · rintro i x H2 H3 hi ⟨s2, eD⟩ ⟨t, x1, y1, rfl, nt, rfl, hx, hy⟩
          have s3 := same_upd (o := .tup [x1, y1]) nt
          refine ⟨t, _, rfl, SqT.of upd_same, rfl, _, _, rfl, _, _, rfl, rfl, rfl, lc_turn ?_⟩
          refine ⟨x1, rfl, y1, rfl, x1, y1, rfl, (paired_at hp hx hy).same (s2.trans s3), fun H4 s4 => ⟨(List.replicate i true).map V.bl, (s3.trans s4) _ _ eD, ?_, fun b' o hb' => ?_, ?_⟩⟩
          · rw [List.length_map, List.length_replicate]
            exact Nat.lt_of_lt_of_le (by omega : i < 100000) (sz _ (Nat.le_refl _))
          · have nD' : b' ≠ D := ne_of_none (s1 _ _ hb') nD
            rw [upd_ne nD']
            exact (s3.trans s4) _ _ (s2 _ _ hb')
          · rw [upd_same, List.replicate_succ', List.map_append]
            rfl
        · rintro H2 ⟨s2, eD⟩
          refine ⟨D, List.replicate xs.length true, rfl, SqL.of eD, ?_⟩
          rw [show (List.replicate xs.length true).all id = true from by rw [List.all_replicate]; simp]
          exact q H2 s2
      · -- tuples
        have kab : PySem.W.kitAny K (.type "tuple") [.type "list", .type "tuple"] = some true := kit_seq (b1 := false) (b2 := true) (by decide +kernel) (by decide +kernel) rfl
        have tyA : ∀ H', Same H H' → TyX K H' (.ref a) (.type "tuple") := fun H' s' => .base (.tup (s' _ _ ha))
        have tyB : ∀ H', Same H H' → TyX K H' (.ref a2) (.type "tuple") := fun H' s' => .base (.tup (s' _ _ hb))
        refine ⟨.ref a, rfl, sz 2 (by decide), fun tp ntp => ?_⟩
        have s1 := same_upd (o := .tup [.ty "list", .ty "tuple"]) ntp
        refine ⟨_, tp, [.ty "list", .ty "tuple"], _, _, true, rfl, upd_same, .cons (ClsV.ty _) (.cons (ClsV.ty _) .nil), tyA _ s1, kab, true, rfl, iteT ?_⟩
        refine ⟨.ref a2, rfl, _, _, _, _, false, rfl, ClsV.ty _, tyB _ s1, kit_ty (by decide +kernel), .ref a, rfl, _, _, _, _, false, rfl, ClsV.ty _, tyA _ s1, kit_ty (by decide +kernel), rfl, true, rfl, iteT ?_⟩
        refine ⟨.ref a2, rfl, _, _, _, _, true, rfl, ClsV.ty _, tyB _ s1, kit_ty (by decide +kernel), .ref a, rfl, _, _, _, _, true, rfl, ClsV.ty _, tyA _ s1, kit_ty (by decide +kernel), rfl, ?_⟩
        refine ⟨.bl true, rfl, true, rfl, iteT ⟨.ref a, rfl, a, xs, rfl, .inr (SqT.of (s1 _ _ ha)), .ref a2, rfl, a2, ys, rfl, .inr (SqT.of (s1 _ _ hb)), rfl, true, ?_, iteT ?_⟩⟩
        · show V.bl (decide (V.int (xs.length : Int) = V.int (ys.length : Int))) = V.bl true
          rw [paired_len hp, decide_eq_true rfl]
        refine ⟨.ref a, rfl, .ref a2, rfl, a, a2, xs, ys, rfl, .inr ⟨SqT.of (s1 _ _ ha), SqT.of (s1 _ _ hb), fun D nD => ?_⟩⟩
        refine lc_it (walk_zipT (n := xs.length) (by rw [paired_len hp]; exact (Nat.min_self _).symm)) (fun i H' => Same H H' ∧ H' D = some (.lst ((List.replicate i true).map V.bl))) ⟨s1.trans (same_upd nD), upd_same⟩ (fun i H' _ h => ⟨SqT.of (h.1 _ _ ha), SqT.of (h.1 _ _ hb)⟩) ?_ ?_
        · rintro i x H2 H3 hi ⟨s2, eD⟩ ⟨t, x1, y1, rfl, nt, rfl, hx, hy⟩
          have s3 := same_upd (o := .tup [x1, y1]) nt
          refine ⟨t, _, rfl, SqT.of upd_same, rfl, _, _, rfl, _, _, rfl, rfl, rfl, lc_turn ?_⟩
          refine ⟨x1, rfl, y1, rfl, x1, y1, rfl, (paired_at hp hx hy).same (s2.trans s3), fun H4 s4 => ⟨(List.replicate i true).map V.bl, (s3.trans s4) _ _ eD, ?_, fun b' o hb' => ?_, ?_⟩⟩
          · rw [List.length_map, List.length_replicate]
            exact Nat.lt_of_lt_of_le (by omega : i < 100000) (sz _ (Nat.le_refl _))
          · have nD' : b' ≠ D := ne_of_none (s1 _ _ hb') nD
            rw [upd_ne nD']
            exact (s3.trans s4) _ _ (s2 _ _ hb')
          · rw [upd_same, List.replicate_succ', List.map_append]
            rfl
        · rintro H2 ⟨s2, eD⟩
          refine ⟨D, List.replicate xs.length true, rfl, SqL.of eD, ?_⟩
          rw [show (List.replicate xs.length true).all id = true from by rw [List.all_replicate]; simp]
          exact q H2 s2
      · -- a dict
        have tyA : ∀ H', Same H H' → TyX K H' (.ref a) (.type "dict") := fun H' s' => .base (.dK (s' _ _ ha))
        refine ⟨.ref a, rfl, sz 2 (by decide), fun tp ntp => ?_⟩
        have s1 := same_upd (o := .tup [.ty "list", .ty "tuple"]) ntp
        refine ⟨_, tp, [.ty "list", .ty "tuple"], _, _, false, rfl, upd_same, .cons (ClsV.ty _) (.cons (ClsV.ty _) .nil), tyA _ s1, kit_seq (b1 := false) (b2 := false) (by decide +kernel) (by decide +kernel) rfl, false, rfl, iteF ?_⟩
        refine ⟨.ref a, rfl, _, _, _, _, true, rfl, ClsV.ty _, tyA _ s1, kit_ty (by decide +kernel), true, rfl, iteT ?_⟩
        refine ⟨.ref a, rfl, _, _, _, _, true, rfl, ClsV.ty _, tyA _ s1, kit_ty (by decide +kernel), true, rfl, iteT ?_⟩
        refine ⟨.ref a, rfl, a, kvs, rfl, s1 _ _ ha, fun q1 nq1 => ?_⟩
        have s2 := s1.trans (same_upd (o := .lst (kvs.map fun kv => kV kv.1)) nq1)
        refine ⟨.ref a, rfl, a, kvs, rfl, s2 _ _ ha, fun q2 nq2 => ?_⟩
        have s3 := s2.trans (same_upd (o := .lst (kvs.map fun kv => kV kv.1)) nq2)
        have n12 : q1 ≠ q2 := fun e => by rw [← e, upd_same] at nq2; cases nq2
        refine ⟨.ref q1, .ref q2, rfl, ?_, fun H3 s4 => ?_⟩
        · match k, hk with
          | k + 1, _ => exact .inr (.inl ⟨q1, q2, _, _, rfl, rfl, .inl ⟨by rw [upd_ne n12]; exact upd_same, upd_same⟩, paired_keys kvs k, by rw [List.length_map]; exact hz⟩)
        have s5 := s3.trans s4
        refine ⟨.bl true, rfl, true, rfl, iteT ⟨a, .dK kvs, s5 _ _ ha, trivial, fun od => ?_⟩⟩
        refine ⟨.ref a, rfl, a, od, rfl, .inl ⟨kvs, upd_same, fun D nD => ?_⟩⟩
        have aD : a ≠ D := fun e => by rw [← e, upd_same] at nD; cases nD
        refine lc_it walk_keys (fun i H' => Same (upd H3 a (.frz od (.dK kvs))) H' ∧ H' D = some (.lst ((List.replicate i true).map V.bl))) ⟨same_upd nD, upd_same⟩ (fun i H' _ h => h.1 _ _ upd_same) ?_ ?_
        · rintro i x H4 H5 hi ⟨s6, eD⟩ ⟨rfl, kx, vx, hx, rfl⟩
          obtain ⟨⟨iv, hiv⟩, hval⟩ := hkv _ (List.mem_of_getElem? hx)
          have ef := s6 _ _ upd_same
          refine ⟨rfl, lc_turn ?_⟩
          refine ⟨.ref a, rfl, kV kx, rfl, a, vx, rfl, .inl ⟨kvs, kx, .inr ⟨od, ef⟩, rfl, hval.symm⟩, .ref a, rfl, kV kx, rfl, a, vx, rfl, .inl ⟨kvs, kx, .inr ⟨od, ef⟩, rfl, hval.symm⟩, vx, vx, rfl, ?_, fun H6 s7 => ⟨(List.replicate i true).map V.bl, s7 _ _ eD, ?_, fun b' o hb' => ?_, ?_⟩⟩
          · have hiv' : vx = .int iv := hiv
            rw [hiv']
            exact atom_eqv (.int iv) _
          · rw [List.length_map, List.length_replicate]
            exact Nat.lt_of_lt_of_le (by omega : i < 100000) (sz _ (Nat.le_refl _))
          · rw [upd_ne (ne_of_none hb' nD)]
            exact s7 _ _ (s6 _ _ hb')
          · rw [upd_same, List.replicate_succ', List.map_append]
            rfl
        · rintro H4 ⟨s6, eD⟩
          refine ⟨s6 _ _ upd_same, D, List.replicate kvs.length true, rfl, SqL.of (by rw [upd_ne aD.symm]; exact eD), ?_⟩
          rw [show (List.replicate kvs.length true).all id = true from by rw [List.all_replicate]; simp]
          refine q _ fun b' o hb' => ?_
          by_cases e : b' = a
          · subst e
            rw [upd_same, ← ha]
            exact hb'
          · rw [upd_ne e]
            refine s6 _ _ ?_
            rw [upd_ne e]
            exact s5 _ _ hb'
end
end K2

set_option Elab.async false
set_option linter.all false
set_option maxRecDepth 100000
set_option maxHeartbeats 4000000
/-! dicts whose keys are tuples within tuples, over the layer -/
namespace ND
open PySem PySem.Spec PyProof.Rows L2
/-! ### keys, as the layer tracks their tuples -/
mutual
inductive Nk (H : Hp) : V → NestedKey → Prop
  | text (x : Str) : Nk H (.str x) (.text x)
  | num (i : Int) : Nk H (.int i) (.num i)
  | tup {a : Addr} {vs : List V} {ks : List NestedKey} : Rd H a (.tup vs) → NkAll H vs ks → Nk H (.ref a) (.tup ks)
inductive NkAll (H : Hp) : List V → List NestedKey → Prop
  | nil : NkAll H [] []
  | cons {v : V} {k : NestedKey} {vs : List V} {ks : List NestedKey} : Nk H v k → NkAll H vs ks → NkAll H (v :: vs) (k :: ks)
end
/-- all tuples stay -/
def TupS (H H' : Hp) : Prop := ∀ a vs, Rd H a (.tup vs) → Rd H' a (.tup vs)
theorem TupS.of {H H' : Hp} (s : Same H H') : TupS H H' := fun a vs h => h.elim (fun e => .inl (s _ _ e)) fun ⟨o, e⟩ => .inr ⟨o, s _ _ e⟩
theorem TupS.trans {H H1 H2 : Hp} (a : TupS H H1) (b : TupS H1 H2) : TupS H H2 := fun x vs h => b x vs (a x vs h)
mutual
theorem Nk.keep {H H' : Hp} (s : TupS H H') : ∀ {v : V} {k : NestedKey}, Nk H v k → Nk H' v k
  | _, _, .text x => .text x
  | _, _, .num i => .num i
  | _, _, .tup h t => .tup (s _ _ h) (NkAll.keep s t)
theorem NkAll.keep {H H' : Hp} (s : TupS H H') : ∀ {vs : List V} {ks : List NestedKey}, NkAll H vs ks → NkAll H' vs ks
  | _, _, .nil => .nil
  | _, _, .cons h t => .cons (h.keep s) (NkAll.keep s t)
end
mutual
theorem Nk.is {P : Program} {w : World} {H : Hp} {h : Heap} (ok : HOk P w H h) : ∀ {v : V} {k : NestedKey}, Nk H v k → ∀ {u : Value}, RelV v u → NestedIs h k u
  | _, _, .text x, u, r => by
    obtain ⟨t, rfl⟩ := r
    exact .text x t
  | _, _, .num i, u, r => by
    obtain ⟨t, rfl⟩ := r
    exact .int i t
  | _, _, .tup (a := a) (vs := vs) e hs, u, r => by
    obtain rfl : u = .ref a := r
    obtain ⟨_, its, rv, o, eo, ec, n, ed⟩ : ObjOk P w H h a (.tup vs) := e.elim (fun e => ok _ _ e) fun ⟨o, e⟩ => (ok _ _ e).2
    exact .tup eo ec ed (by simpa using NkAll.is ok hs rv)
theorem NkAll.is {P : Program} {w : World} {H : Hp} {h : Heap} (ok : HOk P w H h) : ∀ {vs : List V} {ks : List NestedKey}, NkAll H vs ks → ∀ {us : List Value}, Vals vs us → NestedAll h ks us
  | _, _, .nil, _, .nil => .nil
  | _, _, .cons a t, _, .cons r rs => .cons (a.is ok r) (NkAll.is ok t rs)
end
/-! ### the dict -/
abbrev NE := NestedKey × Addr × Value
/-- the dict's own object -/
def Raw (P : Program) (w : World) (d : Addr) (xs : List NE) (ep : Nat) : Heap → Prop := fun h => ∃ o es, h.get? d = some o ∧ o.ExactDict ∧ o.data = Data.dict es ep ∧ es.toList = xs.map (entryOfKey (nestedKind P w))
theorem Raw.stay {P : Program} {w : World} {d : Addr} {xs : List NE} {ep : Nat} (h1 h2 : Heap) (h : Raw P w d xs ep h1) (s : ∀ o, h1.get? d = some o → h2.get? d = some o) : Raw P w d xs ep h2 := by
  obtain ⟨o, es, a, r⟩ := h
  exact ⟨o, es, s _ a, r⟩
theorem Raw.ok {P : Program} {w : World} {H : Hp} {h : Heap} {d : Addr} {xs : List NE} {ep : Nat} (r : Raw P w d xs ep h) : ObjOk P w H h d (.ext (Raw P w d xs ep)) :=
  ⟨r, by obtain ⟨o, _, a, _⟩ := r; exact ⟨o, a⟩, fun h1 h2 => Raw.stay h1 h2⟩
/-- an entry, and what stands for it -/
def EntN (H : Hp) (kv : NestedKey × V) (q : NE) : Prop := kv.1 = q.1 ∧ Nk H (.ref q.2.1) q.1 ∧ q.1.depth ≤ 8 ∧ RelV kv.2 q.2.2
/-- at d a dict of these pairs -/
def DN (P : Program) (w : World) (H : Hp) (d : Addr) (kvs : List (NestedKey × V)) : Prop :=
  ∃ xs ep, H d = some (.ext (Raw P w d xs ep)) ∧ Paired (EntN H) kvs xs ∧ (xs.map (·.1)).Nodup ∧ (d == sysModules) = false
theorem EntN.keep {H H' : Hp} (s : TupS H H') {kv : NestedKey × V} {q : NE} : EntN H kv q → EntN H' kv q := fun ⟨a, b, c, d⟩ => ⟨a, b.keep s, c, d⟩
theorem ents_keep {H H' : Hp} (s : TupS H H') : ∀ {kvs : List (NestedKey × V)} {xs : List NE}, Paired (EntN H) kvs xs → Paired (EntN H') kvs xs
  | _, _, .nil => .nil
  | _, _, .cons a t => .cons (a.keep s) (ents_keep s t)
theorem DN.same {P : Program} {w : World} {H H' : Hp} {d : Addr} {kvs : List (NestedKey × V)} (s : Same H H') : DN P w H d kvs → DN P w H' d kvs := fun ⟨xs, ep, a, b, c, e⟩ => ⟨xs, ep, s _ _ a, ents_keep (.of s) b, c, e⟩
theorem DN.keep {P : Program} {w : World} {H H' : Hp} {d : Addr} {kvs : List (NestedKey × V)} (t : TupS H H') (s : ∀ o, H d = some o → H' d = some o) : DN P w H d kvs → DN P w H' d kvs := fun ⟨xs, ep, a, b, c, e⟩ => ⟨xs, ep, s _ a, ents_keep t b, c, e⟩
def atN (kvs : List (NestedKey × V)) (k : NestedKey) : Option V := (kvs.find? fun kv => decide (kv.1 = k)).map (·.2)
def putN (kvs : List (NestedKey × V)) (k : NestedKey) (v : V) : List (NestedKey × V) := if (atN kvs k).isSome then kvs.map fun kv => if kv.1 = k then (kv.1, v) else kv else kvs ++ [(k, v)]
theorem at_rel {H : Hp} {k : NestedKey} : ∀ {kvs : List (NestedKey × V)} {xs : List NE}, Paired (EntN H) kvs xs →
    (atN kvs k = none ∧ atKey xs k = none) ∨ ∃ v b u, atN kvs k = some v ∧ atKey xs k = some (b, u) ∧ RelV v u
  | _, _, .nil => .inl ⟨rfl, rfl⟩
  | kv :: kvs, q :: xs, .cons e t => by
    obtain ⟨e1, _, _, e4⟩ := e
    unfold atN atKey
    rw [List.find?_cons, List.find?_cons, ← e1]
    by_cases hk : kv.1 = k
    · rw [decide_eq_true hk]
      exact .inr ⟨_, _, _, rfl, rfl, e4⟩
    · rw [decide_eq_false hk]
      exact at_rel t
theorem put_rel {H : Hp} {k : NestedKey} {v : V} {u : Value} (r : RelV v u) : ∀ {kvs : List (NestedKey × V)} {xs : List NE}, Paired (EntN H) kvs xs →
    Paired (EntN H) (kvs.map fun kv => if kv.1 = k then (kv.1, v) else kv) (xs.map (putAt k u))
  | _, _, .nil => .nil
  | kv :: kvs, q :: xs, .cons e t => by
    refine .cons ?_ (put_rel r t)
    obtain ⟨e1, e2, e3, e4⟩ := e
    show EntN H (if kv.1 = k then (kv.1, v) else kv) (if q.1 = k then (q.1, q.2.1, u) else q)
    by_cases hk : kv.1 = k
    · rw [if_pos hk, if_pos (e1 ▸ hk)]
      exact ⟨e1, e2, e3, r⟩
    · rw [if_neg hk, if_neg (e1 ▸ hk)]
      exact ⟨e1, e2, e3, e4⟩
theorem paired_snoc {α β : Type} {F : α → β → Prop} : ∀ {a : List α} {b : List β} {x : α} {y : β}, Paired F a b → F x y → Paired F (a ++ [x]) (b ++ [y])
  | _, _, _, _, .nil, h => .cons h .nil
  | _, _, _, _, .cons e t, h => .cons e (paired_snoc t h)
theorem stored_rel {H : Hp} {k : NestedKey} {a : Addr} {v : V} {u : Value} (r : RelV v u) (hk : Nk H (.ref a) k) (hd : k.depth ≤ 8) {kvs : List (NestedKey × V)} {xs : List NE} (h : Paired (EntN H) kvs xs) :
    Paired (EntN H) (putN kvs k v) (storedH xs k a u) := by
  unfold putN storedH
  rcases at_rel (k := k) h with ⟨h1, h2⟩ | ⟨v', b, u', h1, h2, _⟩
  · rw [h1, h2]
    exact paired_snoc h ⟨rfl, hk, hd, r⟩
  · rw [h1, h2]
    exact put_rel r h
theorem paired_len {α β : Type} {F : α → β → Prop} : ∀ {a : List α} {b : List β}, Paired F a b → a.length = b.length
  | _, _, .nil => rfl
  | _, _, .cons _ t => by simp [paired_len t]
theorem DN.keyed {P : Program} {w : World} {H : Hp} {h : Heap} {d : Addr} {kvs : List (NestedKey × V)} (ok : HOk P w H h) : DN P w H d kvs →
    ∃ xs ep, H d = some (.ext (Raw P w d xs ep)) ∧ Paired (EntN H) kvs xs ∧ (d == sysModules) = false ∧ Heap.DictOfH (nestedKind P w) h d xs := fun ⟨xs, ep, a, b, c, e⟩ => by
  obtain ⟨⟨o, es, o1, o2, o3, o4⟩, _⟩ := ok _ _ a
  refine ⟨xs, ep, a, b, e, o, es, ep, o1, o2, o3, o4, fun x hx => ?_, c⟩
  have go : ∀ {kvs : List (NestedKey × V)} {xs : List NE}, Paired (EntN H) kvs xs → ∀ x ∈ xs, Nk H (.ref x.2.1) x.1 ∧ x.1.depth ≤ 8 := by
    intro kvs xs hp
    induction hp with
    | nil => intro x hx; cases hx
    | cons e t ih =>
      intro x hx
      rcases List.mem_cons.mp hx with rfl | hx
      · exact ⟨e.2.1, e.2.2.1⟩
      · exact ih x hx
  obtain ⟨n1, n2⟩ := go b x hx
  exact ⟨n1.is ok rfl, n2⟩
/-! ### the rules -/
section
variable {X : Cx}
/-- behind a store -/
theorem DN.wrote {P : Program} {w : World} {H : Hp} {h' : Heap} {d a : Addr} {k : NestedKey} {v : V} {u : Value} {kvs : List (NestedKey × V)} {xs : List NE} {ep ep2 : Nat}
    (hd : H d = some (.ext (Raw P w d xs ep))) (hp : Paired (EntN H) kvs xs) (hs : (d == sysModules) = false) (hk : Nk H (.ref a) k) (h8 : k.depth ≤ 8) (r : RelV v u) (D : Heap.DictOfH (nestedKind P w) h' d (storedH xs k a u)) :
    DN P w (upd H d (.ext (Raw P w d (storedH xs k a u) ep2))) d (putN kvs k v) := by
  have ts : TupS H (upd H d (.ext (Raw P w d (storedH xs k a u) ep2))) := fun b vs e => by
    rcases e with e | ⟨o, e⟩
    · exact .inl (by rw [upd_ne (fun z => by rw [z, hd] at e; cases e)]; exact e)
    · exact .inr ⟨o, by rw [upd_ne (fun z => by rw [z, hd] at e; cases e)]; exact e⟩
  obtain ⟨_, _, _, _, _, _, _, _, nd⟩ := D
  exact ⟨_, _, upd_same, ents_keep ts (stored_rel r hk h8 hp), nd, hs⟩
def rSetN (P : Program) (w : World) : TSet := fun o i v H Q => ∃ d a k kvs, o = .ref d ∧ i = .ref a ∧ DN P w H d kvs ∧ Nk H (.ref a) k ∧ k.depth ≤ 8 ∧ kvs.length ≤ 100000 ∧
  ∀ φ, DN P w (upd H d (.ext φ)) d (putN kvs k v) → Q (upd H d (.ext φ))
theorem set_nd (hu : X.A.units + 9 < cLine) : PSet X (rSetN X.prog X.w) := by
  intro pins s σ H o i v ov iv u Q I ro ri rv h
  obtain ⟨d, a, k, kvs, rfl, rfl, hD, hk, h8, hl, q⟩ := h
  obtain rfl : ov = .ref d := ro
  obtain rfl : iv = .ref a := ri
  obtain ⟨xs, ep, e1, e2, e3, D⟩ := hD.keyed I.hok
  refine wpAny_setItem_heap (knd := nestedKind X.prog X.w) (by show X.A.in1.units + 8 < cLine; show X.A.units + 1 + 8 < cLine; omega) ⟨hk.is I.hok rfl, h8⟩ D (fun h' D' sb => ?_) (by rw [← paired_len e2]; exact Nat.le_trans hl (by rw [sizeLine_eq]; decide))
  have D2 := D'
  obtain ⟨o', es', ep', g1, g2, g3, g4, _, _⟩ := D'
  refine ⟨_, I.write (x := d) (e := d) (o := .ext (Raw X.prog X.w d (storedH xs k a u) ep')) (by rw [e1]; trivial) (.inl rfl) (fun b ob n g => by rw [sb.2 b n]; exact g) ⟨o', g1⟩ (Raw.ok ⟨o', es', g1, g2, g3, g4⟩), ?_⟩
  exact q _ (DN.wrote e1 e2 e3 hk h8 rv D2)
/-- d[k] -/
def rGetN (P : Program) (w : World) : R2 := fun x y H Q => ∃ d a k kvs v, x = .ref d ∧ y = .ref a ∧ DN P w H d kvs ∧ Nk H (.ref a) k ∧ k.depth ≤ 8 ∧ atN kvs k = some v ∧ Q v H
theorem get_nd (hu : X.A.units + 9 < cLine) {pins : List (Addr × Obj)} {s : Shared} {σ : L2.St} {H : Hp} {x y : V} {v u : Value} {Q : VK} (I : Inv X pins σ H s) (rx : RelV x v) (ry : RelV y u) (h : rGetN X.prog X.w x y H Q) :
    wpAny (model X.prog X.w) X.A (getItem v u) (EP X pins σ Q) X.xe s := by
  obtain ⟨d, a, k, kvs, z, rfl, rfl, hD, hk, h8, hv, q⟩ := h
  obtain rfl : v = .ref d := rx
  obtain rfl : u = .ref a := ry
  obtain ⟨xs, ep, e1, e2, e3, D⟩ := hD.keyed I.hok
  rcases at_rel (k := k) e2 with ⟨h1, _⟩ | ⟨z', b, u', h1, h2, r⟩
  · rw [h1] at hv
    cases hv
  · rw [h1] at hv
    cases hv
    exact wpAny_getItem_heap (knd := nestedKind X.prog X.w) (by show X.A.units + 1 + 8 < cLine; omega) ⟨hk.is I.hok rfl, h8⟩ D h2 ⟨_, H, I.tok _, r, q⟩
/-- k in d -/
def rInN (P : Program) (w : World) : R2 := fun x y H Q => ∃ d a k kvs, x = .ref a ∧ y = .ref d ∧ DN P w H d kvs ∧ Nk H (.ref a) k ∧ k.depth ≤ 8 ∧ Q (.bl (atN kvs k).isSome) H
theorem in_nd (hu : X.A.units + 9 < cLine) : OpR X (compareOp .In) (rInN X.prog X.w) := by
  intro pins s σ H x y v u Q I rx ry h
  obtain ⟨d, a, k, kvs, rfl, rfl, hD, hk, h8, q⟩ := h
  obtain rfl : v = .ref a := rx
  obtain rfl : u = .ref d := ry
  obtain ⟨xs, ep, e1, e2, e3, D⟩ := hD.keyed I.hok
  refine wpAny_in_heap (knd := nestedKind X.prog X.w) (by show X.A.units + 1 + 8 < cLine; omega) ⟨hk.is I.hok rfl, h8⟩ e3 D ?_
  have : (atKey xs k).isSome = (atN kvs k).isSome := by
    rcases at_rel (k := k) e2 with ⟨h1, h2⟩ | ⟨z', b, u', h1, h2, r⟩ <;> rw [h1, h2] <;> rfl
  rw [this]
  exact ⟨.bl _, H, I.tok _, rfl, q⟩
/-- d.setdefault(k, x) -/
def rDefN (P : Program) (w : World) : V → List V → Hp → VK → Prop := fun x vs H Q => ∃ d a k kvs v, x = .ref d ∧ vs = [.ref a, v] ∧ DN P w H d kvs ∧ Nk H (.ref a) k ∧ k.depth ≤ 8 ∧ kvs.length ≤ 100000 ∧
  (∀ z, atN kvs k = some z → Q z H) ∧ (atN kvs k = none → ∀ φ, DN P w (upd H d (.ext φ)) d (putN kvs k v) → Q v (upd H d (.ext φ)))
theorem mt_setdefault (hu : X.A.units + 9 < cLine) : MtR X "dict.setdefault" (rDefN X.prog X.w) := by
  intro pins s σ H x vs v us Q I rx rs h
  obtain ⟨d, a, k, kvs, z, rfl, rfl, hD, hk, h8, hl, q1, q2⟩ := h
  obtain rfl : v = .ref d := rx
  cases rs with
  | cons ra rs =>
    cases rs with
    | cons rz rs =>
      cases rs
      rename_i ua uz
      obtain rfl : ua = .ref a := ra
      obtain ⟨xs, ep, e1, e2, e3, D⟩ := hD.keyed I.hok
      refine call_setdefault_heap (knd := nestedKind X.prog X.w) (by show X.A.units + 1 + 8 < cLine; omega) ⟨hk.is I.hok rfl, h8⟩ e3 D (fun p hp => ?_) (fun hn h' D' sb => ?_) (by rw [← paired_len e2]; exact Nat.le_trans hl (by rw [sizeLine_eq]; decide))
      · rcases at_rel (k := k) e2 with ⟨_, h2⟩ | ⟨z', b, u', h1, h2, r⟩
        · rw [h2] at hp
          cases hp
        · rw [h2] at hp
          cases hp
          exact ⟨_, H, I.tok _, r, q1 _ h1⟩
      · rcases at_rel (k := k) e2 with ⟨h1, _⟩ | ⟨z', b, u', _, h2, _⟩
        · have D2 := D'
          obtain ⟨o', es', ep', g1, g2, g3, g4, _, _⟩ := D'
          refine ⟨_, _, I.write (x := d) (e := d) (o := .ext (Raw X.prog X.w d (storedH xs k a uz) ep')) (by rw [e1]; trivial) (.inl rfl) (fun b ob n g => by rw [sb.2 b n]; exact g) ⟨o', g1⟩ (Raw.ok ⟨o', es', g1, g2, g3, g4⟩), rz, ?_⟩
          exact q2 h1 _ (DN.wrote e1 e2 e3 hk h8 rz D2)
        · rw [h2] at hn
          cases hn
/-- {} -/
def tNewN (P : Program) (w : World) : TE := fun _ H Q => ∀ d φ, H d = none → DN P w (upd H d (.ext φ)) d [] → Q (.ref d) (upd H d (.ext φ))
theorem pe_newN {pos : Pos} : PE X (.Dict [] [] pos) (tNewN X.prog X.w) := by
  refine ⟨fun pins s σ H Q I h => ?_⟩
  refine wpAny_mono (pe_dnewT.run pins s σ H (fun v H' => ∃ p, v = .ref p ∧ H p = none ∧ H' = upd H p (.dT [])) I (fun p hp => ⟨p, rfl, hp, rfl⟩)) ?_ fun _ _ z => z
  rintro u s' ⟨v, H', I', r, p, rfl, hp, rfl⟩
  obtain ⟨_, hs, xs, hx, o, es, ep, g1, g2, g3, g4, _⟩ := I'.hok p _ upd_same
  cases hx
  have raw : Raw X.prog X.w p [] ep s'.heap := ⟨o, es, g1, g2, g3, g4⟩
  have e : upd (upd H p (.dT [])) p (.ext (Raw X.prog X.w p [] ep)) = upd H p (.ext (Raw X.prog X.w p [] ep)) := by
    funext b
    by_cases hb : b = p
    · subst hb
      rw [upd_same, upd_same]
    · rw [upd_ne hb, upd_ne hb, upd_ne hb]
  have I2 := I'.write (x := p) (e := p) (h' := s'.heap) (t' := s'.toks) (o := .ext (Raw X.prog X.w p [] ep)) (by rw [upd_same]; trivial) (.inl rfl) (fun b ob _ g => g) ⟨o, g1⟩ (Raw.ok raw)
  rw [e] at I2
  exact ⟨.ref p, _, I2, r, h p _ hp ⟨[], ep, upd_same, .nil, List.nodup_nil, hs⟩⟩
/-- for k in d, [.. for k in d ..], one name for the key -/
def Itn (P : Program) (w : World) (d : Addr) (kvs : List (NestedKey × V)) (xs : List NE) (ep : Nat) : It :=
  { go := fun i H => H d = some (.ext (Raw P w d xs ep)) ∧ Paired (EntN H) kvs xs ∧ i < kvs.length,
    yld := fun i H x H' => H' = H ∧ ∃ k v a, kvs[i]? = some (k, v) ∧ x = .ref a ∧ Nk H (.ref a) k,
    stop := fun i H => H d = some (.ext (Raw P w d xs ep)) ∧ Paired (EntN H) kvs xs ∧ kvs.length ≤ i }
def iKeysN (P : Program) (w : World) (td : TE) : TI := fun σ H R => td σ H fun x H1 => ∃ d kvs, x = .ref d ∧ DN P w H1 d kvs ∧ ∀ xs ep, H1 d = some (.ext (Raw P w d xs ep)) → Paired (EntN H1) kvs xs → R (Itn P w d kvs xs ep) H1
theorem paired_get {α β : Type} {F : α → β → Prop} : ∀ {a : List α} {b : List β} {i : Nat} {y : β}, Paired F a b → b[i]? = some y → ∃ x, a[i]? = some x ∧ F x y
  | _, _, 0, y, .cons h _, e => by
    obtain rfl : _ = y := by simpa using e
    exact ⟨_, rfl, h⟩
  | _, _, i + 1, y, .cons _ t, e => paired_get (i := i) t (by simpa using e)
  | _, _, _, _, .nil, e => by simp at e
theorem raw_es {P : Program} {w : World} {d : Addr} {xs : List NE} {ep : Nat} {h : Heap} {es : Array DictEntry} (r : Raw P w d xs ep h) (he : es.toList = xs.map (entryOfKey (nestedKind P w))) : h.DictRaw d es ep := by
  obtain ⟨o, es', g1, g2, g3, g4⟩ := r
  have : es' = es := Array.toList_inj.mp (g4.trans he.symm)
  subst this
  exact ⟨o, g1, g2, g3⟩
theorem pi_keysN {tg e : Expr} {td : TE} (he : PE X e td) : PI X tg e (iKeysN X.prog X.w td) := by
  refine ⟨fun pins s σ H R I h => ?_⟩
  refine wpAny_mono (he.run pins s σ H _ I h) ?_ fun _ _ z => z
  rintro v s1 ⟨x, H1, I1, r, d, kvs, rfl, hD, q⟩
  obtain rfl : v = .ref d := r
  obtain ⟨xs, ep, a1, a2, a3, a4⟩ := hD
  obtain ⟨raw, _⟩ := I1.hok _ _ a1
  have raw0 := raw
  obtain ⟨o, es, g1, g2, g3, g4⟩ := raw
  have hes : es.size = kvs.length := by
    rw [← Array.length_toList, g4, List.length_map, paired_len a2]
  have entry : ∀ (i : Nat) (hi : i < es.size), ∃ q, xs[i]? = some q ∧ es[i].key = .ref q.2.1 := by
    intro i hi
    have h1 : es.toList[i]? = some es[i] := by rw [Array.getElem?_toList]; exact Array.getElem?_eq_getElem hi
    rw [g4, List.getElem?_map] at h1
    obtain ⟨q, hq, e⟩ := Option.map_eq_some_iff.mp h1
    exact ⟨q, hq, by rw [← e]; rfl⟩
  have hbig : s1.heap.objs.size ≤ s1.heap.objs.size := Nat.le_refl _
  refine wpAny_pyIter_dict_raw a4 (raw_es raw0 g4) ?_
  have kp : ∀ (b : Addr) (u : Obj), s1.heap.get? b = some u → (s1.heap.push { cls := Value.type "dict_keyiterator", data := Data.fields #[Value.ref d, Value.int 0 0, Value.int (↑es.size) 0, Value.int (↑ep) 0] }).get? b = some u := fun b u z => Heap.get?_push_of_some _ z
  refine ⟨s1.heap.objs.size, [s1.heap.objs.size], fun i h => h.IsKeyIter s1.heap.objs.size d i es.size ep, Itn X.prog X.w d kvs xs ep, H1, rfl, I1.kept kp, ?_, ?_, fun b hb => ?_, q xs ep a1 a2⟩
  · refine { mem := List.mem_singleton.mpr rfl, obj := ?_, keep := ?_, item := ?_, done := ?_, self := ?_ }
    · rintro i h ⟨o1, b1, b2, b3⟩ b hb
      obtain rfl := List.mem_singleton.mp hb
      exact ⟨o1, b1, fun v z => by rw [b3] at z; cases z⟩
    · rintro i h h' ⟨o1, b1, b2, b3⟩ hk
      exact ⟨o1, hk _ (List.mem_singleton.mpr rfl) _ b1, b2, b3⟩
    · rintro Y hp hw hK hc i pins2 s2 σ2 H2 E2 I2 hfp ⟨o1, b1, b2, b3⟩ ⟨c1, c2, c3⟩
      have ok2 : HOk X.prog X.w H2 s2.heap := by
        have z := I2.hok
        rw [hp, hw] at z
        exact z
      have hlt : i < es.size := by omega
      refine wpAny_pyNext_keys_item_raw ⟨o1, b1, b2, b3⟩ (raw_es (ok2 _ _ c1).1 g4) hlt fun h' k' sb => ?_
      obtain ⟨q2, hq2, ek⟩ := entry i hlt
      obtain ⟨kv, hkv, z1, z2, z3, z4⟩ := paired_get c2 hq2
      refine ⟨_, rfl, PyProof.Rows.letGo_keyiter k' ?_⟩
      rw [ek]
      obtain ⟨f1, f2, f3, f4, f5, f6⟩ := hfp _ (List.mem_singleton.mpr rfl)
      refine ⟨.ref q2.2.1, H2, I2.turned (fun b ob n g => by rw [sb.2 b n]; exact g) f1 f2 f4 f5 f6, rfl, ⟨rfl, kv.1, kv.2, q2.2.1, hkv, rfl, z1 ▸ z2⟩, k', fun b hb => ?_⟩
      obtain rfl := List.mem_singleton.mp hb
      exact f1
    · rintro Y hp hw hK hc i pins2 s2 σ2 H2 E2 I2 hfp ⟨o1, b1, b2, b3⟩ ⟨c1, c2, c3⟩
      have ok2 : HOk X.prog X.w H2 s2.heap := by
        have z := I2.hok
        rw [hp, hw] at z
        exact z
      refine wpAny_pyNext_keys_end_raw (I2.ok.hd hc) ⟨o1, b1, b2, b3⟩ (raw_es (ok2 _ _ c1).1 g4) (by omega) fun h' xb => ?_
      obtain ⟨f1, f2, f3, f4, f5, f6⟩ := hfp _ (List.mem_singleton.mpr rfl)
      exact ⟨rfl, I2.turned (fun b ob n g => xb b ob n g) f1 f2 f4 f5 f6⟩
    · rintro A i s2 Q2 E2 hi hq
      exact wpAny_pyIter_keyiter hi hq
  · exact ⟨_, Heap.get?_push_size _ rfl, rfl, rfl⟩
  · obtain rfl := List.mem_singleton.mp hb
    exact I1.fpOk hbig (I1.hok.fresh hbig)
end
end ND

set_option Elab.async false
set_option linter.all false
set_option maxRecDepth 100000
set_option maxHeartbeats 4000000
/-! sorted(xs) of any data, over the layer -/
namespace ND
open PySem PySem.Spec PyProof.Rows L2
/-- sorted as data, in order and equal ones in their old order -/
def srtD (ps : List (V × PyData)) : List (V × PyData) := ps.mergeSort (PySem.W.dataLe false Prod.snd)
theorem srtD_perm (ps : List (V × PyData)) : (srtD ps).Perm ps := List.mergeSort_perm _ _
def rSortD (K : PySem.W.Frag) (u : Nat) : List V → Hp → VK → Prop := fun vs H Q => ∃ (a : Addr) (ps : List (V × PyData)), vs = [.ref a] ∧ SqL K H a (ps.map Prod.fst) ∧ (∀ p ∈ ps, Dp K H p.1 p.2) ∧ PySem.W.AllAlike (ps.map Prod.snd) ∧ PySem.W.Sortable (ps.map Prod.snd) ∧
  ps.length ≤ 100000 ∧ (∀ p ∈ ps, p.2.depth ≤ u) ∧ ∀ d, H d = none → Q (.ref d) (upd H d (.lst ((srtD ps).map Prod.fst)))
theorem each_of_vals {ps : List (V × PyData)} {vs : List Value} (h : Vals (ps.map Prod.fst) vs) : PySem.W.EachIs (fun (v : Value) (p : V × PyData) => RelV p.1 v) vs ps := by
  induction ps generalizing vs with
  | nil => cases h; exact .nil
  | cons p ps ih =>
    cases h with
    | cons a t => exact .cons a (ih t)
theorem vals_of_each {ps : List (V × PyData)} {vs : List Value} (h : PySem.W.EachIs (fun (v : Value) (p : V × PyData) => RelV p.1 v) vs ps) : Vals (ps.map Prod.fst) vs := by
  induction h with
  | nil => exact .nil
  | cons a _ ih => exact .cons a ih
theorem each_imp {α β : Type} {R S : α → β → Prop} : ∀ {as : List α} {bs : List β}, PySem.W.EachIs R as bs → (∀ a b, b ∈ bs → R a b → S a b) → PySem.W.EachIs S as bs
  | _, _, .nil, _ => .nil
  | _, _, .cons h t, k => .cons (k _ _ List.mem_cons_self h) (each_imp t fun a b m => k a b (List.mem_cons_of_mem _ m))
theorem cr_sortD {X : Cx} {u : Nat} (hu : X.A.units + 2 + u < cLine) : CallR X (.builtin "sorted") (rSortD X.K u) := by
  intro pins s σ H xs us Q I r h
  obtain ⟨a, ps, rfl, hS, hD, hA, hO, hl, hu2, q⟩ := h
  cases r with
  | cons ra rs =>
    cases rs
    rename_i v
    obtain rfl : v = .ref a := ra
    obtain ⟨its, rv, hp, hz⟩ := I.list hS
    have ea := each_of_vals rv
    refine PySem.W.sorted_data (bs := ps) (enc := Prod.snd) (R := fun v p => RelV p.1 v) (by obtain ⟨o, n, g1, g2, _, g3⟩ := hp; exact ⟨o, g1, g2, n, g3⟩) ea (each_imp ea fun v p m r => Dp.reads I _ _ _ (hD p m) r) hA hO (Nat.le_trans hl (by rw [sizeLine_eq]; decide)) (fun p m => ?_) (fun out lo eo => ?_)
    · have := hu2 p m
      omega
    · obtain ⟨e, he⟩ := sortedAll_at s.heap its out.toArray
      refine ⟨.ref (s.heap.objs.size + 1), _, I.laid (t' := s.toks) (fun b o z => sortedAll_old z) (Nat.le_succ _) (show ObjOk X.prog X.w _ _ _ (.lst ((srtD ps).map Prod.fst)) from ⟨?_, out, e, vals_of_each eo, he⟩), rfl, q _ (I.hok.fresh (Nat.le_succ _))⟩
      rw [List.length_map, (srtD_perm ps).length_eq]
      exact Nat.le_trans hl (by rw [sizeLine_eq]; decide)
end ND

set_option Elab.async false
set_option linter.all false
set_option maxRecDepth 100000
set_option maxHeartbeats 4000000
/-! set(xs) of texts -/
namespace TX
open PySem PySem.Spec PyProof.Rows L2
section
variable {P : Program} {w : World} {A : Around} {E : Value → Shared → Prop} {s : Shared}
abbrev freshS (w : World) : Obj := { cls := Value.type "set", data := Data.set #[] 0 (SetTable.fresh 0 0 !w.params.followText "set-order") }
theorem new_set (a : Value) {Q : Value → Shared → Prop} (h : Q (.ref s.heap.objs.size) { heap := s.heap.push (freshS w), gens := s.gens, drawn := s.drawn, toks := s.toks, os := s.os }) :
    codeAny (model P w) A (Code.call (.builtin "set.__new__") { pos := [.type "set", a] }) (wants Q E) s := by
  refine codeAny_call_builtin F.plain_set_new F.entry_set_new ?_
  rw [F.newCall_set_1]
  refine wpAny_pure ?_
  unfold Builtin.«set.__new__»
  refine wpAny_bind ?_
  unfold Builtin.Frozenset.newClass
  refine wpAny_bind ?_
  refine wpAny_pure ?_
  simp only [Bool.not_true, Bool.false_eq_true, if_false]
  refine wpAny_bind ?_
  rw [F.sub_set_set]
  refine wpAny_pure ?_
  simp only [Bool.not_true, Bool.false_eq_true, if_false]
  refine wpAny_pure ?_
  refine wpAny_bind ?_
  unfold newSet
  refine wpAny_bind ?_
  refine L2.wpAny_byText ?_
  refine wpAny_newObj_type ?_ (by show (0 : Nat) ≤ _; exact Nat.zero_le _)
  exact wpAny_pure h
theorem init_set {B : Around} {S l : Addr} {R : Result → Shared → Prop} (hS : s.heap.get? S = some (freshS w)) {items : Array Value} (hl : s.heap.IsList l items)
    (h : codeAny (model P w) A (Code.builtin "set.update.loop" { pos := [.ref S, .ref s.heap.objs.size] }) (wants (fun _ s' => R (.ok (.ret .none)) s') (fun e s' => R (.error e) s')) { heap := s.heap.push { cls := Value.type "list_iterator", data := Data.fields #[Value.ref l, Value.int 0 0] }, gens := s.gens, drawn := s.drawn, toks := s.toks, os := s.os }) :
    wpAny (model P w) A (Builtin.«set.__init__» { pos := [.ref S, .ref l] }) (fun fin s' => match fin with | .done f => R (.ok f) s' | .again c' => c'.quiet = true ∧ codeAny (model P w) B c' R s') (fun e s' => R (.error e) s') s := by
  unfold Builtin.«set.__init__»
  refine wpAny_bind ?_
  unfold noKeywords
  simp only [List.isEmpty_nil, if_true]
  refine wpAny_pure ?_
  refine wpAny_bind ?_
  unfold typeNameOfCut
  refine wpAny_bind ?_
  unfold shownTypeOf
  refine wpAny_bind ?_
  refine wpAny_typeOf_ref hS ?_
  refine wpAny_pure ?_
  unfold typeNameCut
  show wpAny _ _ (typeName (.type "set")) _ _ _
  unfold typeName
  refine wpAny_pure ?_
  refine wpAny_bind ?_
  unfold checkCount
  refine wpAny_pure ?_
  refine wpAny_bind ?_
  unfold Builtin.Frozenset.addrOf
  refine wpAny_pure ?_
  refine wpAny_bind ?_
  unfold setUsed
  refine wpAny_bind ?_
  refine wpAny_setState_of hS rfl rfl ?_
  refine wpAny_pure ?_
  show wpAny _ _ (if (0 != 0) = true then _ else _) _ _ _
  rw [if_neg (by decide)]
  refine wpAny_bind ?_
  unfold Builtin.Frozenset.updateFrom
  refine wpAny_bind ?_
  unfold Builtin.Frozenset.isAnySet
  obtain ⟨ol, g1, g2, n, g3⟩ := hl
  have li : ∀ (T : String) (Q' : Bool → Shared → Prop), isSubtype (.type "list") (.type T) = pure false → Q' false s → wpAny (model P w) A (isInstance (.ref l) (.type T)) Q' (fun e s' => R (.error e) s') s := by
    intro T Q' hT q
    unfold isInstance
    refine wpAny_bind ?_
    refine wpAny_typeOf_ref g1 ?_
    rw [g2, hT]
    exact wpAny_pure q
  unfold orM
  refine wpAny_bind (m := isInstance (.ref l) (.type "set")) ?_
  refine li _ _ F.sub_list_set ?_
  refine li _ _ F.sub_list_frozenset ?_
  rw [if_neg (by decide)]
  refine wpAny_bind ?_
  refine wpAny_typeOf_ref g1 ?_
  rw [g2]
  rw [if_neg (by decide)]
  refine wpAny_bind ?_
  refine wpAny_pyIter_list ⟨ol, g1, g2, n, g3⟩ ?_
  refine wpAny_bind ?_
  refine wpAny_runValue ?_
  refine codeAny_mono h fun r s' hq => ?_
  match r, hq with
  | .ok (.ret v), hq => exact wpAny_pure (wpAny_pure hq)
  | .ok .next, hq => exact hq.elim
  | .ok .brk, hq => exact hq.elim
  | .ok .cont, hq => exact hq.elim
  | .error e, hq => exact hq
/-- at a a set of these texts, none twice, its order as the model leaves it -/
def TxS (P : Program) (w : World) (h : Heap) (a : Addr) (l : List Str) : Prop :=
  ∃ D : Froz.SD, h.get? a = some (Froz.sObj "set" D) ∧ Froz.TxOk P w D l ∧ l.Nodup ∧ Ris D.2.2.place.toList ∧ (w.params.followText "set-order" = true ∨ D.2.2.led = true)
theorem TxS.fresh {h : Heap} {a : Addr} (e : h.get? a = some (freshS w)) : TxS P w h a [] :=
  ⟨(#[], 0, SetTable.fresh 0 0 !w.params.followText "set-order"), e, .nil rfl, List.nodup_nil, List.Pairwise.nil, by
    cases q : w.params.followText "set-order" with
    | true => exact .inl rfl
    | false => exact .inr rfl⟩
theorem TxS.at {h h' : Heap} {a : Addr} {l : List Str} (e : ∀ o, h.get? a = some o → h'.get? a = some o) : TxS P w h a l → TxS P w h' a l := fun ⟨D, a, b⟩ => ⟨D, e _ a, b⟩
theorem tail_ris {ep : Nat} {es : Array (Int × Value)} {t : SetTable} {b : Bool} (r : Ris t.place.toList) : Ris (Froz.tailTx ep es t b).2.2.place.toList := by
  unfold Froz.tailTx
  split
  · exact relayAll_ris _ _ _
  · exact r
theorem tail_led {ep : Nat} {es : Array (Int × Value)} {t : SetTable} {b : Bool} : (Froz.tailTx ep es t b).2.2.led = t.led := by
  unfold Froz.tailTx
  split
  · exact relayAll_led _ _ _
  · rfl
theorem addTx_ris {h : Int} {v : Value} {D : Froz.SD} (r : Ris D.2.2.place.toList) : Ris (Froz.addTx h v D).2.2.place.toList := by
  have r1 := layNew_ris D.2.2 D.1 h v r
  unfold Froz.addTx
  refine tail_ris ?_
  split
  · exact r1
  · exact r1
theorem addTx_led {h : Int} {v : Value} {D : Froz.SD} : (Froz.addTx h v D).2.2.led = D.2.2.led := by
  have r1 := layNew_led D.2.2 D.1 h v
  unfold Froz.addTx
  refine tail_led.trans ?_
  split
  · exact r1
  · exact r1
theorem add_str {a : Addr} {l : List Str} {k : Str} {u : Tok} {Q : Bool → Shared → Prop} (S : TxS P w s.heap a l) (hz : l.length + 1 < scanBound)
    (q : ∀ b h' t', Heap.SameBut a s.heap h' → TxS P w h' a (if k ∈ l then l else k :: l) → Q b { heap := h', gens := s.gens, drawn := s.drawn, toks := t', os := s.os }) :
    wpAny (model P w) A (setAdd a (.str k u)) Q E s := by
  obtain ⟨D, e, ok, nd, ris, led⟩ := S
  unfold setAdd
  show wpAny _ _ (do let h ← pyHash (.str k u); setAddHashed a (.str k u) h) _ _ _
  refine wpAny_bind ?_
  refine wpAny_pyHash_str ?_
  by_cases hk : k ∈ l
  · rw [if_pos hk] at q
    unfold setAddHashed
    show wpAny _ _ (setAddHashedIn a (.str k u) (hashStr w k) (99999 + 1)) _ _ _
    unfold setAddHashedIn
    refine wpAny_bind ?_
    refine wpAny_setState_of (es := D.1) (ep := D.2.1) (t := D.2.2) e rfl ok.fit ?_
    have sc : byScan (.str k u) D.1 = true := by
      unfold byScan
      rw [Bool.and_eq_true, Bool.and_eq_true]
      refine ⟨⟨rfl, decide_eq_true (by rw [ok.sz]; omega)⟩, ?_⟩
      rw [← Array.all_toList, List.all_eq_true]
      exact fun x hx => (ok.el x hx).2
    show wpAny _ _ (if byScan (.str k u) D.1 = true then _ else _) _ _ _
    rw [if_pos sc]
    refine wpAny_bind ?_
    unfold setAddByScan
    refine wpAny_bind ?_
    refine wpAny_rule ?_
    refine wpAny_bind ?_
    refine wpAny_setScan_of (knd := PySem.strKind P w) (k := k) (Froz.is_str k u) e rfl ok.fit ok.el ?_
    obtain ⟨en, hen, hk2⟩ := (ok.mem k).mp hk
    have hf : ∃ j, List.findIdx? (fun e => (PySem.strKind P w).is k e.snd) D.1.toList = some j := by
      cases z : List.findIdx? (fun e => (PySem.strKind P w).is k e.snd) D.1.toList with
      | some j => exact ⟨j, rfl⟩
      | none =>
        have := List.findIdx?_eq_none_iff.mp z en hen
        rw [hk2] at this
        cases this
    obtain ⟨j, hj⟩ := hf
    rw [hj]
    refine wpAny_pure ?_
    refine wpAny_pure ?_
    exact q _ _ _ ⟨rfl, fun b _ => rfl⟩ ⟨D, e, ok, nd, ris, led⟩
  · rw [if_neg hk] at q
    refine Froz.add_x (T := "set") (D := D) e ok hk hz ?_
    refine q _ _ _ ⟨Heap.size_update _ _ _, fun b hb => Heap.get?_update_ne _ _ _ _ hb⟩ ⟨_, Froz.get_upd _ e rfl, Froz.add_ok u ok, List.nodup_cons.mpr ⟨hk, nd⟩, addTx_ris ris, by rw [addTx_led]; exact led⟩
def addS (l : List Str) (k : Str) : List Str := if k ∈ l then l else k :: l
theorem addS_len (l : List Str) (k : Str) : (addS l k).length ≤ l.length + 1 := by
  unfold addS
  split
  · omega
  · simp
/-- for x in the list: add it -/
theorem loop_str {S I l : Addr} {items : Array Value} (hSI : S ≠ I) (hlI : l ≠ I) (hlS : l ≠ S) : ∀ (rest : List Str) (i : Nat) (acc : List Str) (A : Around) (s : Shared) (R : Result → Shared → Prop),
    A.handled = none → s.heap.IsListIter I l i → s.heap.IsList l items → TxS P w s.heap S acc → StrsAre (items.toList.drop i) rest → acc.length + rest.length < scanBound →
    (∀ s', (∀ b o, b ≠ S → b ≠ I → s.heap.get? b = some o → s'.heap.get? b = some o) → s'.gens = s.gens → s'.os = s.os → s.drawn = s'.drawn → TxS P w s'.heap S (rest.foldl addS acc) → R (.ok (.ret .none)) s') →
    codeAny (model P w) A (Code.builtin "set.update.loop" { pos := [.ref S, .ref I] }) R s
  | [], i, acc, A, s, R, hA, hI, hL, hS, hr, hz, q => by
    refine codeAny_builtin F.entry_set_update_loop ?_
    unfold Builtin.«set.update.loop»
    refine wpAny_bind ?_
    have hn : items[i]? = none := by
      cases z : items[i]? with
      | none => rfl
      | some x =>
        have h1 : items.toList[i]? = some x := by rw [Array.getElem?_toList]; exact z
        have h2 : i < items.toList.length := by
          obtain ⟨h, _⟩ := List.getElem?_eq_some_iff.mp h1
          exact h
        have h3 : items.toList.drop i = [] := by
          generalize items.toList.drop i = d at hr
          cases hr
          rfl
        rw [List.drop_eq_nil_iff] at h3
        omega
    refine wpAny_pyNext_list_end (by exact hA) hI hL hn fun h' xb => ?_
    refine wpAny_pure ?_
    refine q _ (fun b o _ n e => xb b o n e) rfl rfl rfl (hS.at fun o e => xb S o hSI e)
  | k :: rest, i, acc, A, s, R, hA, hI, hL, hS, hr, hz, q => by
    refine codeAny_builtin F.entry_set_update_loop ?_
    unfold Builtin.«set.update.loop»
    refine wpAny_bind ?_
    generalize hd : items.toList.drop i = d at hr
    cases hr with
    | cons _ t hr =>
      rename_i vs
      have hi : items[i]? = some (.str k t) := by
        have h1 : (items.toList.drop i)[0]? = some (Value.str k t) := by rw [hd]; rfl
        rw [List.getElem?_drop, Array.getElem?_toList] at h1
        exact h1
      have hd2 : items.toList.drop (i + 1) = vs := by
        have h1 : (items.toList.drop i).drop 1 = vs := by rw [hd]; rfl
        rw [List.drop_drop] at h1
        exact h1
      refine wpAny_pyNext_list_item hI hL hi fun h' hI' sb => ?_
      have hS' : TxS P w h' S acc := hS.at fun o e => by rw [sb.2 S hSI]; exact e
      have hz1 : acc.length + 1 < scanBound := by simp only [List.length_cons] at hz; omega
      refine wpAny_bind ?_
      show wpAny _ _ (setAdd S (.str k t)) _ _ _
      refine add_str (s := { heap := h', gens := s.gens, drawn := s.drawn, toks := s.toks, os := s.os }) hS' hz1 fun b h2 t2 sb2 hS2 => ?_
      refine wpAny_pure ⟨plainId_quiet PyProof.Rows.F.plain_set_update_loop _, ?_⟩
      obtain ⟨oi, i1, i2, i3⟩ := hI'
      obtain ⟨ol, l1, l2, ln, l3⟩ := hL
      refine loop_str hSI hlI hlS rest (i + 1) (addS acc k) A _ R hA ⟨oi, by rw [sb2.2 I hSI.symm]; exact i1, i2, i3⟩ ⟨ol, by rw [sb2.2 l hlS, sb.2 l hlI]; exact l1, l2, ln, l3⟩ hS2 (hd2 ▸ hr) ?_ fun s' k1 k2 k3 k4 k6 => ?_
      · have := addS_len acc k
        simp only [List.length_cons] at hz
        omega
      · exact q s' (fun b o n1 n2 e => k1 b o n1 n2 (by rw [sb2.2 b n1, sb.2 b n2]; exact e)) k2 k3 k4 k6
theorem call_set_new {a : Value} {Q : Value → Shared → Prop}
    (hi : codeAny (model P w) A.in1 (Code.call (.builtin "set.__init__") { pos := [.ref s.heap.objs.size, a] }) (wants (fun r s2 => r = .none ∧ Q (.ref s.heap.objs.size) s2) E) { heap := s.heap.push (freshS w), gens := s.gens, drawn := s.drawn, toks := s.toks, os := s.os }) :
    wpAny (model P w) A (call (.type "set") [a]) Q E s := by
  refine wpAny_call ?_
  refine codeAny_of_tree ?_
  refine wpAny_pure ?_
  refine ⟨Code.quiet_builtin _ (by decide +kernel), codeAny_builtin F.entry_type_call ?_⟩
  rw [Around.under_plain (weight_type_call_type _ _ _) (units_type_call_type _ _ _)]
  unfold Builtin.«type.__call__»
  refine wpAny_ite_false (by decide) ?_
  refine wpAny_ite_false (by rw [F.called_set.canCreate]; rfl) ?_
  refine wpAny_bind ?_
  refine wpAny_of_eq (F.typeCall_set_1 _) ?_
  obtain ⟨c, tl, hm⟩ := F.called_set.mro
  refine wpAny_bind ?_
  refine wpAny_of_eq hm ?_
  refine wpAny_ite_false rfl ?_
  refine wpAny_bind ?_
  refine wpAny_of_eq F.called_set.made ?_
  refine wpAny_bind ?_
  refine wpAny_pure ?_
  refine wpAny_bind ?_
  refine wpAny_holding ?_
  refine wpAny_call ?_
  refine codeAny_mono (new_set (s := s) a (Q := fun v s1 => v = .ref s.heap.objs.size ∧ s1 = { heap := s.heap.push (freshS w), gens := s.gens, drawn := s.drawn, toks := s.toks, os := s.os }) (E := fun _ _ => False) ⟨rfl, rfl⟩) fun r s1 h1 => ?_
  match r, h1 with
  | .ok (.ret v), h1 =>
    obtain ⟨rfl, rfl⟩ := h1
    have n1 : (s.heap.push (freshS w)).get? s.heap.objs.size = some (freshS w) := Heap.get?_push_size _ rfl
    refine wpAny_bind ?_
    refine wpAny_isInstance ⟨_, n1, rfl⟩ F.called_set.sub ?_
    refine wpAny_ite_false rfl ?_
    refine wpAny_bind ?_
    refine wpAny_holding ?_
    unfold callSpecial?
    refine wpAny_bind ?_
    refine wpAny_specialOf ⟨_, n1, rfl⟩ F.called_set.init.lookup ?_
    refine wpAny_holding ?_
    refine wpAny_bind ?_
    refine wpAny_of_eq (F.called_set.init.bind _) ?_
    refine wpAny_bind ?_
    refine wpAny_call ?_
    refine codeAny_mono hi fun r2 s2 h2 => ?_
    match r2, h2 with
    | .ok (.ret v), h2 =>
      obtain ⟨rfl, q⟩ := h2
      refine wpAny_pure ?_
      refine wpAny_ite_false rfl ?_
      exact wpAny_pure q
    | .ok .next, h2 => exact h2.elim
    | .ok .brk, h2 => exact h2.elim
    | .ok .cont, h2 => exact h2.elim
    | .error e, h2 => exact h2
  | .ok .next, h1 => exact h1.elim
  | .ok .brk, h1 => exact h1.elim
  | .ok .cont, h1 => exact h1.elim
  | .error e, h1 => exact h1.elim
theorem call_set_strs {l : Addr} {items : Array Value} {xs : List Str} {Q : Value → Shared → Prop} (hA : A.handled = none) (hL : s.heap.IsList l items) (hx : StrsAre items.toList xs) (hz : xs.length < scanBound)
    (q : ∀ s', (∀ b o, s.heap.get? b = some o → s'.heap.get? b = some o) → s'.gens = s.gens → s'.os = s.os → s'.drawn = s.drawn → TxS P w s'.heap s.heap.objs.size (xs.foldl addS []) → Q (.ref s.heap.objs.size) s') : wpAny (model P w) A (call (.type "set") [.ref l]) Q E s := by
  obtain ⟨ol, l1, l2, ln, l3⟩ := hL
  refine call_set_new ?_
  have n1 : (s.heap.push (freshS w)).get? s.heap.objs.size = some (freshS w) := Heap.get?_push_size _ rfl
  refine codeAny_call_builtin F.called_set.init.plain F.entry_set_init ?_
  refine check_set_init_1 ⟨_, n1, rfl⟩ ?_
  have hl1 : l < s.heap.objs.size := Heap.lt_size l1
  refine init_set n1 ⟨ol, Heap.get?_push_of_some _ l1, l2, ln, l3⟩ ?_
  have sz1 : (s.heap.push (freshS w)).objs.size = s.heap.objs.size + 1 := Array.size_push _
  generalize hh : s.heap.push (freshS w) = h1 at n1 sz1
  have old : ∀ b o, s.heap.get? b = some o → h1.get? b = some o := fun b o e => hh ▸ Heap.get?_push_of_some _ e
  refine loop_str (P := P) (w := w) (l := l) (items := items) (fun z => Nat.ne_of_lt (Nat.lt_succ_self _) (z.trans sz1)) (Nat.ne_of_lt (sz1 ▸ Nat.lt_succ_of_lt hl1)) (Nat.ne_of_lt hl1) xs 0 [] _ _ _ hA ⟨_, Heap.get?_push_size _ rfl, rfl, rfl⟩ ⟨ol, Heap.get?_push_of_some _ (old _ _ l1), l2, ln, l3⟩ (TxS.fresh (Heap.get?_push_of_some _ n1)) (by rw [List.drop_zero]; exact hx) (by simpa using hz) ?_
  intro s' k1 k2 k3 k4 k6
  refine ⟨rfl, q s' (fun b o e => ?_) k2 k3 k4.symm k6⟩
  have hb := Heap.lt_size e
  exact k1 b o (Nat.ne_of_lt hb) (Nat.ne_of_lt (sz1 ▸ Nat.lt_succ_of_lt hb)) (Heap.get?_push_of_some _ (old b o e))
theorem perm_len {α : Type} [DecidableEq α] : ∀ (l zs : List α), l.Nodup → (∀ x ∈ l, x ∈ zs) → zs.length = l.length → zs.Perm l
  | [], zs, _, _, h => by
    rw [List.length_nil] at h
    rw [List.length_eq_zero_iff.mp h]
  | x :: l, zs, hn, hs, h => by
    rw [List.nodup_cons] at hn
    have hx := hs x List.mem_cons_self
    have p1 := List.perm_cons_erase hx
    refine p1.trans (List.Perm.cons x (perm_len l _ hn.2 (fun y hy => ?_) ?_))
    · have : y ≠ x := fun z => hn.1 (z ▸ hy)
      exact (List.mem_erase_of_ne this).mpr (hs y (List.mem_cons_of_mem _ hy))
    · rw [List.length_erase_of_mem hx, h]
      rfl
theorem TxS.setAt {h : Heap} {a : Addr} {l : List Str} (S : TxS P w h a l) : ∃ (es : Array (Int × Value)) (ep : Nat) (t : SetTable), SetAt h a es ep t ∧ t.fits es.size = true ∧ es.size = l.length ∧ Ris t.place.toList ∧ (w.params.followText "set-order" = true ∨ t.led = true) ∧
    ∃ zs : List Str, zs.Perm l ∧ PySem.W.EachIs (fun (v : Value) (x : Str) => ∃ t, v = .str x t) (es.toList.map (·.2)) zs := by
  obtain ⟨D, e, ok, nd, ris, led⟩ := S
  refine ⟨D.1, D.2.1, D.2.2, ⟨_, e, rfl, rfl⟩, ok.fit, ok.sz, ris, led, ?_⟩
  have el := ok.el
  have mem := ok.mem
  have sz := ok.sz
  rw [← Array.length_toList] at sz
  generalize D.1.toList = es at el mem sz
  -- each element is a text
  have tx : ∀ en ∈ es, ∃ x t, en.2 = Value.str x t := fun en hen => by
    obtain ⟨⟨k, hk, _⟩, _⟩ := el en hen
    revert hk
    cases en.2 <;> intro hk <;> first | exact ⟨_, _, rfl⟩ | exact Bool.noConfusion (show false = true from hk)
  have each : ∀ es : List (Int × Value), (∀ en ∈ es, ∃ x t, en.2 = Value.str x t) → ∃ zs : List Str, PySem.W.EachIs (fun (v : Value) (x : Str) => ∃ t, v = .str x t) (es.map (·.2)) zs ∧ zs.length = es.length ∧ ∀ x, x ∈ zs ↔ ∃ en ∈ es, ∃ t, en.2 = .str x t := by
    intro es
    induction es with
    | nil => intro _; exact ⟨[], .nil, rfl, fun x => by simp⟩
    | cons en es ih =>
      intro h
      obtain ⟨x, t, e1⟩ := h en List.mem_cons_self
      obtain ⟨zs, h1, h2, h3⟩ := ih fun en h' => h en (List.mem_cons_of_mem _ h')
      refine ⟨x :: zs, .cons ⟨t, e1⟩ h1, by simp [h2], fun y => ?_⟩
      rw [List.mem_cons, h3]
      constructor
      · rintro (rfl | ⟨en', m, t', e'⟩)
        · exact ⟨en, List.mem_cons_self, t, e1⟩
        · exact ⟨en', List.mem_cons_of_mem _ m, t', e'⟩
      · rintro ⟨en', m, t', e'⟩
        rcases List.mem_cons.mp m with rfl | m
        · rw [e1] at e'
          cases e'
          exact .inl rfl
        · exact .inr ⟨en', m, t', e'⟩
  obtain ⟨zs, z1, z2, z3⟩ := each es tx
  refine ⟨zs, perm_len l zs nd (fun x hx => (z3 x).mpr ?_) (by omega), z1⟩
  obtain ⟨en, hen, hk⟩ := (mem x).mp hx
  obtain ⟨y, t, e1⟩ := tx en hen
  rw [e1] at hk
  have : y = x := by
    have := (PySem.strKind P w).inj _ _ _ (Froz.is_str y t) hk
    exact this
  exact ⟨en, hen, t, this ▸ e1⟩
theorem each_tx : ∀ {vs : List Value}, (∀ v ∈ vs, ∃ x t, v = Value.str x t) → ∃ zs : List Str, PySem.W.EachIs (fun (v : Value) (x : Str) => ∃ t, v = .str x t) vs zs
  | [], _ => ⟨[], .nil⟩
  | v :: vs, h => by
    obtain ⟨x, t, e⟩ := h v List.mem_cons_self
    obtain ⟨zs, hz⟩ := each_tx fun v' m => h v' (List.mem_cons_of_mem _ m)
    exact ⟨x :: zs, .cons ⟨t, e⟩ hz⟩
def txOf : Value → Str
  | .str x _ => x
  | _ => Str.empty
theorem each_map : ∀ {vs : List Value} {zs : List Str}, PySem.W.EachIs (fun (v : Value) (x : Str) => ∃ t, v = .str x t) vs zs → zs = vs.map txOf ∧ ∀ v ∈ vs, ∃ x t, v = Value.str x t
  | _, _, .nil => ⟨rfl, fun _ h => nomatch h⟩
  | _, _, .cons ⟨t, e⟩ r => by
    obtain ⟨h1, h2⟩ := each_map r
    subst e
    exact ⟨by rw [h1]; rfl, fun v m => by
      rcases List.mem_cons.mp m with rfl | m
      · exact ⟨_, _, rfl⟩
      · exact h2 v m⟩
theorem each_perm {vs us : List Value} {zs : List Str} (p : us.Perm vs) (h : PySem.W.EachIs (fun (v : Value) (x : Str) => ∃ t, v = .str x t) vs zs) : ∃ ys : List Str, ys.Perm zs ∧ PySem.W.EachIs (fun (v : Value) (x : Str) => ∃ t, v = .str x t) us ys := by
  obtain ⟨h1, h2⟩ := each_map h
  obtain ⟨ys, hy⟩ := each_tx (vs := us) fun v m => h2 v (p.mem_iff.mp m)
  obtain ⟨h3, _⟩ := each_map hy
  exact ⟨ys, by rw [h1, h3]; exact p.map _, hy⟩
theorem each_reads {h : Heap} {a : Addr} : ∀ {us : List Value} {ys : List Str}, PySem.W.EachIs (fun (v : Value) (x : Str) => ∃ t, v = .str x t) us ys → PySem.W.EachIs (fun v (x : Str) => ∃ as, Reads h v (PyData.str x) as ∧ ¬ a ∈ as) us ys
  | _, _, .nil => .nil
  | _, _, .cons ⟨t, e⟩ r => .cons ⟨[], by rw [e]; exact .str _ _, by simp⟩ (each_reads r)
theorem each_len : ∀ {us : List Value} {ys : List Str} {R : Value → Str → Prop}, PySem.W.EachIs R us ys → us.length = ys.length
  | _, _, _, .nil => rfl
  | _, _, _, .cons _ r => by simp [each_len r]
theorem sorted_set_strs {S : Addr} {l : List Str} {Q : Value → Shared → Prop} (hA : A.handled = none) (hu : A.units + 3 < cLine) (hS : TxS P w s.heap S l) (hz : l.length < scanBound)
    (q : ∀ s' d (zs : List Str) out e, (∀ b o, s.heap.get? b = some o → s'.heap.get? b = some o) → s'.gens = s.gens → s'.os = s.os → s.heap.objs.size ≤ d → zs.Perm l → s'.heap.get? d = some (seqObj "list" out e) →
      PySem.W.EachIs (fun (v : Value) (x : Str) => ∃ t, v = .str x t) out.toList (zs.mergeSort (PySem.W.dataLe false PyData.str)) → Q (.ref d) s') : wpAny (model P w) A (call (.builtin "sorted") [.ref S]) Q E s := by
  obtain ⟨es, ep, t, sa, fit, sz, ris, led, zs, hp, he⟩ := hS.setAt
  refine Calls.call_function_entry kind_sorted plain_sorted entry_sorted (args_sorted1 _) ?_
  unfold Builtin.sorted
  refine wpAny_bind ?_
  refine wpAny_pure ?_
  refine wpAny_bind ?_
  refine collect_set hA sa fit (by omega) ris led fun s1 us k1 k2 k3 k4 pu => ?_
  obtain ⟨ys, py, hy⟩ := each_perm pu he
  have lu : us.length ≤ sizeLine := by
    rw [each_len hy, (py.trans hp).length_eq, sizeLine_eq]
    have : scanBound = 4096 := rfl
    omega
  refine wpAny_bind ?_
  refine wpAny_newList ?_ lu
  refine wpAny_bind ?_
  refine wpAny_holding ?_
  have n1 : (s1.heap.push { cls := Value.type "list", data := Data.seq us.toArray }).get? s1.heap.objs.size = some (seqObj "list" us.toArray 0) := Heap.get?_push_size _ rfl
  refine PySem.W.list_sort_data (bs := ys) (enc := PyData.str) (R := fun v x => ∃ t, v = .str x t) n1 hy (each_reads hy) (.of fun _ _ => rfl) (.inr fun d hd => ?_) (by rw [← each_len hy]; exact lu) (fun b _ => ?_) fun out lo eo => ?_
  · obtain ⟨x, _, rfl⟩ := List.mem_map.mp hd
    exact ⟨fun z => (by cases z), fun xs z => (by cases z)⟩
  · show A.units + 1 + 1 + 0 < cLine
    omega
  · refine wpAny_pure ⟨_, rfl, ?_⟩
    obtain ⟨e, he2⟩ := sortedHeap_at (out := out.toArray) n1
    refine q _ _ ys out.toArray e (fun b o z => ?_) k3 k4 k2 (py.trans hp) he2 eo
    have h1 := k1 b o z
    have h2 := Heap.lt_size h1
    rw [sortedHeap_old (Nat.ne_of_lt h2) (by rw [size_push']; exact Nat.lt_succ_of_lt h2)]
    exact Heap.get?_push_of_some _ h1
end
end TX

set_option Elab.async false
set_option linter.all false
set_option maxRecDepth 100000
set_option maxHeartbeats 4000000
/-! set(xs), sorted(set(xs)), len(set(xs)) of texts, over the layer -/
namespace ND
open PySem PySem.Spec PyProof.Rows L2 TX
section
variable {X : Cx} {pins : List (Addr × Obj)} {σ : L2.St} {H : Hp} {s s' : Shared}
theorem inv_of (I : Inv X pins σ H s) (h : s'.heap = s.heap) (g : s'.gens = s.gens) (o : s'.os = s.os) : Inv X pins σ H s' := by
  obtain ⟨h1, g1, d1, t1, o1⟩ := s
  obtain ⟨h2, g2, d2, t2, o2⟩ := s'
  cases h
  cases g
  cases o
  exact { ok := I.ok, os := I.os, bare := I.bare, base := I.base, loc := I.loc, cell := I.cell, free := I.free, freeC := I.freeC, pin := I.pin, hok := I.hok, len := I.len }
end
/-- a set of these texts -/
def SetX (P : Program) (w : World) (a : Addr) (l : List Str) : HO := .ext fun h => TxS P w h a l
theorem SetX.ok {P : Program} {w : World} {H : Hp} {h : Heap} {a : Addr} {l : List Str} (S : TxS P w h a l) : ObjOk P w H h a (SetX P w a l) :=
  ⟨S, by obtain ⟨D, e, _⟩ := S; exact ⟨_, e⟩, fun h1 h2 k e => k.at e⟩
def rSetX (K : PySem.W.Frag) (P : Program) (w : World) : List V → Hp → VK → Prop := fun vs H Q => ∃ (a : Addr) (xs : List Str), vs = [.ref a] ∧ SqL K H a (xs.map V.str) ∧ xs.length ≤ 1000 ∧ ∀ d, H d = none → Q (.ref d) (upd H d (SetX P w d (xs.foldl addS [])))
theorem strs_of_vals : ∀ {xs : List Str} {us : List Value}, Vals (xs.map V.str) us → StrsAre us xs
  | [], _, .nil => .nil
  | x :: xs, _, .cons ⟨t, e⟩ r => by
    subst e
    exact .cons _ _ (strs_of_vals r)
theorem vals_of_strs : ∀ {xs : List Str} {us : List Value}, PySem.W.EachIs (fun (v : Value) (x : Str) => ∃ t, v = .str x t) us xs → Vals (xs.map V.str) us
  | _, _, .nil => .nil
  | _, _, .cons ⟨t, e⟩ r => .cons ⟨t, e⟩ (vals_of_strs r)
section
variable {X : Cx}
theorem cr_setX (hc : X.calm = true) : CallR X (.type "set") (rSetX X.K X.prog X.w) := by
  intro pins s σ H vs us Q I r h
  obtain ⟨a, xs, rfl, hS, hl, q⟩ := h
  obtain ⟨u, rfl, ru⟩ := vals1 r
  obtain rfl : u = .ref a := ru
  obtain ⟨its, rv, ⟨o, n, g1, g2, _, g3⟩, _⟩ := I.list hS
  refine call_set_strs (P := X.prog) (w := X.w) (I.ok.hd hc) ⟨o, g1, g2, n, g3⟩ (strs_of_vals rv) (by show xs.length < 4096; omega) fun s' k1 k2 k3 k4 k5 => ?_
  refine ⟨.ref s.heap.objs.size, _, inv_of (I.laid (t' := s.toks) k1 (Nat.le_refl _) (SetX.ok k5)) rfl k2 k3, rfl, q _ (I.hok.fresh (Nat.le_refl _))⟩
def rSortX (P : Program) (w : World) : List V → Hp → VK → Prop := fun vs H Q => ∃ (a : Addr) (l : List Str), vs = [.ref a] ∧ H a = some (SetX P w a l) ∧ l.length ≤ 1000 ∧
  ∀ d (zs : List Str), H d = none → zs.Perm l → Q (.ref d) (upd H d (.lst ((zs.mergeSort (PySem.W.dataLe false PyData.str)).map V.str)))
theorem cr_sortX (hc : X.calm = true) (hu : X.A.units + 3 < cLine) : CallR X (.builtin "sorted") (rSortX X.prog X.w) := by
  intro pins s σ H vs us Q I r h
  obtain ⟨a, l, rfl, e, hl, q⟩ := h
  obtain ⟨u, rfl, ru⟩ := vals1 r
  obtain rfl : u = .ref a := ru
  refine sorted_set_strs (P := X.prog) (w := X.w) (I.ok.hd hc) hu (I.hok _ _ e).1 (by show l.length < 4096; omega) fun s' d zs out ep k1 k2 k3 k4 k5 k6 k7 => ?_
  refine ⟨.ref d, _, inv_of (I.laid (t' := s.toks) (o := .lst ((zs.mergeSort (PySem.W.dataLe false PyData.str)).map V.str)) k1 k4 ⟨?_, out.toList, ep, vals_of_strs k7, by rw [Array.toArray_toList]; exact k6⟩) rfl k2 k3, rfl, q _ zs (I.hok.fresh k4) k5⟩
  rw [List.length_map, List.length_mergeSort, k5.length_eq, sizeLine_eq]
  omega
def rLenX (P : Program) (w : World) : List V → Hp → VK → Prop := fun vs H Q => ∃ (a : Addr) (l : List Str), vs = [.ref a] ∧ H a = some (SetX P w a l) ∧ l.length ≤ 1000 ∧ Q (.int l.length) H
theorem cr_lenX : CallR X (.builtin "len") (rLenX X.prog X.w) := by
  intro pins s σ H vs us Q I r h
  obtain ⟨a, l, rfl, e, hl, q⟩ := h
  obtain ⟨u, rfl, ru⟩ := vals1 r
  obtain rfl : u = .ref a := ru
  obtain ⟨⟨D, g, ok, _⟩, _⟩ := I.hok _ _ e
  have hz : (D.1.size : Int) = (l.length : Int) := by rw [ok.sz]
  refine call_len_set (es := D.1) (ep := D.2.1) (t := D.2.2) g ⟨rfl, rfl, rfl⟩ rfl ok.fit (by rw [hz]; omega) ⟨.int l.length, H, I.tok _, ⟨_, by rw [hz]⟩, q⟩
end
end ND

set_option Elab.async false
set_option linter.all false
set_option maxRecDepth 100000
set_option maxHeartbeats 4000000
/-! xs.count(y) of data, t.count(s) of texts -/
namespace ND
open PySem PySem.Spec PyProof.Rows L2
section
variable {X : Cx}
def rCountD (K : PySem.W.Frag) : V → List V → Hp → VK → Prop := fun x vs H Q => ∃ (p : Addr) (xs : List V) (ds : List PyData) (y : V) (d : PyData), x = .ref p ∧ vs = [y] ∧ SqL K H p xs ∧ DpAll K H xs ds ∧ Dp K H y d ∧ PyData.canLayAll0 ds = true ∧ SeqAt.shaped d = true ∧ Q (.int (ds.countP fun e => e.eqv d : Nat)) H
theorem mt_countD (hu : X.A.units + 65 < cLine) : MtR X "list.count" (rCountD X.K) := by
  intro pins s σ H x vs v us Q I rx rs h
  obtain ⟨p, xs, ds, y, d, rfl, rfl, hS, hD, hy, hc, hs, q⟩ := h
  obtain rfl : v = .ref p := rx
  obtain ⟨u, rfl, ru⟩ := rs.one
  obtain ⟨its, rv, ⟨o, n, g1, g2, g2b, g3⟩, hz⟩ := I.list hS
  obtain ⟨as, hr⟩ := Dp.readsAll I _ _ _ hD rv
  obtain ⟨bs, hr2⟩ := Dp.reads I _ _ _ hy ru
  have oe : o = { cls := .type "list", dict := none, data := .seq its.toArray n, slots := o.slots } := by
    obtain ⟨oc, od, oda, os⟩ := o
    simp only at g2 g2b g3
    subst g2 g2b g3
    rfl
  have hmap := SeqAt.readsAll_map _ _ _ hc hr
  refine call_meets F.slot_list_count ⟨o, g1, g2⟩ F.entry_list_count (F.args_list_count_2 _ _) (SeqAt.list_countAt p its.toArray n none o.slots u fun z => (SeqAt.readOf s.heap z).eqv d) ⟨oe ▸ g1, fun z hz => ?_, ?_⟩
  · exact SeqAt.items_eqAt (by simpa using hr) hr2 hc (SeqAt.canLay_of_shaped hs) (room_in_shaped hs hu) z hz
  · refine ⟨.int _, H, I.tok _, ⟨s.toks, ?_⟩, q⟩
    have : its.toArray.toList.countP (fun z => (SeqAt.readOf s.heap z).eqv d) = ds.countP fun e => e.eqv d := by
      rw [← hmap, List.countP_map]
      rfl
    rw [this]
def rCountT (K : PySem.W.Frag) : V → List V → Hp → VK → Prop := fun x vs H Q => ∃ (p : Addr) (xs : List Str) (y : Str), x = .ref p ∧ vs = [.str y] ∧ SqT K H p (xs.map V.str) ∧ Q (.int (xs.countP fun e => e == y : Nat)) H
theorem strs_mem : ∀ {its : List Value} {xs : List Str}, StrsAre its xs → ∀ z ∈ its, ∃ x u, z = Value.str x u
  | _, _, .nil, _, h => nomatch h
  | _, _, .cons a b c, z, h => by
    rcases List.mem_cons.mp h with rfl | h
    · exact ⟨_, _, rfl⟩
    · exact strs_mem c z h
theorem strs_countP (y : Str) : ∀ {its : List Value} {xs : List Str}, StrsAre its xs → its.countP (fun z => TX.txOf z == y) = xs.countP fun e => e == y
  | _, _, .nil => rfl
  | _, _, .cons a b c => by rw [List.countP_cons, List.countP_cons, strs_countP y c]; rfl
theorem mt_countT : MtR X "tuple.count" (rCountT X.K) := by
  intro pins s σ H x vs v us Q I rx rs h
  obtain ⟨p, xs, y, rfl, rfl, hS, q⟩ := h
  obtain rfl : v = .ref p := rx
  obtain ⟨u, rfl, t, rfl⟩ := rs.one
  obtain ⟨its, rv, ⟨o, g1, g2, n, g3⟩, hz⟩ := I.tuple hS
  have oe : o = { cls := .type "tuple", dict := o.dict, data := .seq its.toArray n, slots := o.slots } := by
    obtain ⟨oc, od, oda, os⟩ := o
    simp only at g2 g3
    subst g2 g3
    rfl
  have st := strs_of_vals rv
  refine call_meets F.slot_tuple_count ⟨o, g1, g2⟩ F.entry_tuple_count (F.args_tuple_count_2 _ _) (SeqAt.tuple_countAt p its.toArray n o.dict o.slots (.str y t) fun z => TX.txOf z == y) ⟨oe ▸ g1, fun z hz => ?_, ?_⟩
  · have hz : z ∈ its := by simpa using hz
    obtain ⟨x, u, rfl⟩ := strs_mem st z hz
    exact (eqGives_str x y u t).at _ _
  · refine ⟨.int _, H, I.tok _, ⟨s.toks, ?_⟩, q⟩
    rw [← strs_countP y st]
end
end ND

set_option Elab.async false
set_option linter.all false
set_option maxRecDepth 100000
set_option maxHeartbeats 4000000
/-! tuples whose very object is known: displays, methods -/
namespace ND
open PySem PySem.Spec PyProof.Rows L2
/-- a tuple that is just a tuple -/
def ET (H : Hp) (a : Addr) (xs : List V) : Prop := ∃ o : Obj, H a = some (.frz o (.tup xs)) ∧ o.cls = .type "tuple" ∧ o.dict = none
theorem ET.sq {K : PySem.W.Frag} {H : Hp} {a : Addr} {xs : List V} : ET H a xs → SqT K H a xs := fun ⟨o, h, _⟩ => .inl (.inr ⟨o, h⟩)
theorem ET.same {H H' : Hp} {a : Addr} {xs : List V} (s : Same H H') : ET H a xs → ET H' a xs := fun ⟨o, h, r⟩ => ⟨o, s _ _ h, r⟩
theorem ET.ty {K : PySem.W.Frag} {H : Hp} {a : Addr} {xs : List V} : ET H a xs → TyX K H (.ref a) (.type "tuple") := fun ⟨o, h, _⟩ => .fTuple h
section
variable {X : Cx}
def tTupF (t : TA) : TE := fun σ H Q => t σ H fun xs H1 => xs.length ≤ sizeLine ∧ ∀ p o, H1 p = none → ET (upd H1 p (.frz o (.tup xs))) p xs → Q (.ref p) (upd H1 p (.frz o (.tup xs)))
theorem pe_tupF {es : List Expr} {x1 : Nat} {pos : Pos} {t : TA} (ht : PA X es t) : PE X (.Tuple es x1 pos) (tTupF t) := by
  refine ⟨fun pins s σ H Q I h => wpAny_Tuple_spliced ?_⟩
  refine thn (ht.run pos pins s σ H _ I h) fun us s1 ⟨xs, H1, I1, r, hz, q⟩ => ⟨by rw [← r.length]; exact hz, ?_⟩
  have g := Heap.get?_push_size s1.heap (o := { cls := Value.type "tuple", data := Data.seq us.toArray }) rfl
  refine ⟨.ref s1.heap.objs.size, _, I1.laid (t' := s1.toks) (o := .frz { cls := Value.type "tuple", data := Data.seq us.toArray } (.tup xs)) (fun b o z => Heap.get?_push_of_some _ z) (Nat.le_refl _) ⟨g, hz, us, r, _, g, rfl, 0, rfl⟩, rfl, q _ _ (I1.hok.fresh (Nat.le_refl _)) ⟨_, upd_same, rfl, rfl⟩⟩
def tTM (r : V → List V → Hp → VK → Prop) (to : TE) (t : TA) : TE := fun σ H Q => to σ H fun x H1 => (∃ a xs, x = .ref a ∧ ET H1 a xs) ∧ t σ H1 fun xs H2 => r x xs H2 Q
theorem pe_tm {o e : Expr} {es : List Expr} {to : TE} {t : TA} {name : Str} {apos cpos : Pos} {id : String} {r : V → List V → Hp → VK → Prop} (slot : Slot "tuple" name id) (hty : typeOf (.builtin id) = pure (.type "method_descriptor")) (hm : MtR X id r) (ho : PE X o to) (ha : PA X (e :: es) t)
    (hbase : attributeBase o name X.env (eval o X.env) = eval o X.env := by rfl) (hfew : ((((backTo cpos (starEach (e :: es) X.env)).all fun x => !x.1) && (backToKw cpos (keywordEach [] X.env)).all fun x => x.1.isSome) && decide (((e :: es).length + ([] : List Keyword).length + if ([] : List Keyword).isEmpty = true then 0 else 1) < 30)) = true := by rfl)
    (hline : (apos.endLine == cpos.line) = true := by rfl) (hs : starEach (e :: es) X.env = (false, eval e X.env) :: starEach es X.env := by rfl) (hplain : ((backTo cpos (starEach es X.env)).any fun x => x.1) = false := by rfl) :
    PE X (.Call (.Attribute o name apos) (e :: es) [] cpos) (tTM r to t) := by
  refine ⟨fun pins s σ H Q I h => ?_⟩
  refine wpAny_Call_method_late hbase hfew hline rfl ?_
  refine thn (ho.run pins s σ H _ I h) fun v s1 ⟨x, H1, I1, r1, ⟨a, xs, ex, et⟩, q1⟩ => ?_
  subst ex
  obtain rfl : v = .ref a := r1
  obtain ⟨o', e1, c1, d1⟩ := et
  have g := (I1.hok _ _ e1).1
  refine ⟨"tuple", id, F.plainAttrs_tuple, slot, hty, ⟨o', g, c1⟩, fun b hb => by cases hb; exact ⟨o', g, d1⟩, ?_⟩
  have hA := ha.run cpos pins s1 σ H1 (fun xs H2 => r (.ref a) xs H2 Q) I1 q1
  rw [hs] at hA ⊢
  refine Calls.callWith_builtin (by rw [show backTo cpos ((false, eval e X.env) :: starEach es X.env) = (false, eval e X.env) :: backTo cpos (starEach es X.env) from rfl, List.any_cons, hplain]; rfl) ?_
  refine Calls.evalArgs_plain (thn hA fun us s2 ⟨vs, H2, I2, r2, q2⟩ => ?_)
  exact hm pins s2 σ H2 (.ref a) vs (.ref a) us Q I2 rfl r2 q2
end
end ND

set_option Elab.async false
set_option linter.all false
set_option maxRecDepth 100000
set_option maxHeartbeats 4000000
/-! list(zip(xs, ys)) of lists -/
namespace LZ
open PySem PySem.Calls PyProof.Rows PyProof.V PySem.Spec
abbrev ZipQ (h : Heap) (z TI TO : Addr) (f0 : Value) (f : Bool) : Prop :=
  h.get? z = some { cls := .type "zip", dict := none, data := .fields #[f0, .bool f, .bool false, .ref TI, .ref TO], slots := #[] }
section
variable {prog : Program} {w : World} {A : Around} {E : Value → Shared → Prop} {s : Shared}
theorem out_item {z TI TO i1 i2 l1 l2 T : Addr} {f : Bool} {oT : Obj} {k1 k2 : Nat} {xs ys : Array Value} {x y : Value} {Q : Value → Shared → Prop} (D : ZipApart z TI TO i1 i2 l1 l2)
    (hz : ZipQ s.heap z TI TO (rawInt T) f) (hT : s.heap.get? T = some oT) (hTI : IsPair s.heap TI (.ref i1) (.ref i2))
    (h1 : s.heap.IsListIter i1 l1 k1) (h2 : s.heap.IsListIter i2 l2 k2) (hl1 : s.heap.IsList l1 xs) (hl2 : s.heap.IsList l2 ys) (hx : xs[k1]? = some x) (hy : ys[k2]? = some y)
    (hQ : ∀ h', ZipQ h' z TI TO (rawInt T) true → h'.IsListIter i1 l1 (k1 + 1) → h'.IsListIter i2 l2 (k2 + 1) → IsPair h' s.heap.objs.size x y → h'.objs.size = s.heap.objs.size + 1 →
      (∀ c o, c ≠ z → c ≠ i1 → c ≠ i2 → s.heap.get? c = some o → h'.get? c = some o) → Q (.ref s.heap.objs.size) { s with heap := h' }) :
    wpAny (model prog w) A (Builtin.«zip.__next__» ⟨[.ref z], []⟩) (fun fin s' => ∃ v, fin = .done (.ret v) ∧ Q v s') E s := by
  show wpAny _ _ (field (.ref z) 2 >>= _) _ _ _
  refine wpAny_bind (wpAny_field hz rfl (x := .bool false) rfl ?_)
  show wpAny _ _ (field (.ref z) 3 >>= _) _ _ _
  refine wpAny_bind (wpAny_field hz rfl (x := .ref TI) rfl ?_)
  refine wpAny_bind (wpAny_seqItems hTI rfl ?_)
  show wpAny _ _ (Builtin.SmallTypes.ownedTupleIsFree (.ref z) >>= _) _ _ _
  refine wpAny_bind ?_
  have free : ∀ Q' : Bool → Shared → Prop, (∀ h₁, ZipQ h₁ z TI TO (rawInt T) true → Heap.SameBut z s.heap h₁ → Q' false { s with heap := h₁ }) → wpAny (model prog w) A (Builtin.SmallTypes.ownedTupleIsFree (.ref z)) Q' E s := by
    intro Q' q
    unfold Builtin.SmallTypes.ownedTupleIsFree
    refine wpAny_bind (wpAny_field hz rfl (x := rawInt T) rfl ?_)
    show wpAny _ _ (loadIfAlive ((T : Int).toNat) >>= _) _ _ _
    rw [Int.toNat_natCast]
    refine wpAny_bind (PySem.W.kdx_alive hT ?_)
    simp only [Option.isNone_some, Bool.false_eq_true, if_false]
    refine wpAny_bind (wpAny_field hz rfl (x := .bool f) rfl ?_)
    cases f with
    | true =>
      rw [if_neg (show ¬ ((Value.bool true != Value.bool true) = true) from Bool.false_ne_true)]
      exact wpAny_pure (q s.heap hz (Heap.SameBut.refl _ _))
    | false =>
      rw [if_pos (show (Value.bool false != Value.bool true) = true from rfl)]
      exact wpAny_bind (wpAny_setField_rec hz (by simp) fun h₃ he₃ hs₃ => wpAny_pure (q h₃ he₃ hs₃))
  refine free _ fun h₁ hz₁ hs₁ => ?_
  simp only [Bool.false_eq_true, if_false]
  refine wpAny_bind ?_
  rw [← Array.forIn_toList]
  simp only [List.forIn_cons, List.forIn_nil]
  refine wpAny_bind ?_
  refine wpAny_bind ?_
  refine wpAny_holding ?_
  show wpAny _ _ (Builtin.SmallTypes.nextOf (.ref i1) >>= _) _ _ _
  refine wpAny_bind (wpAny_nextOf_list_item (h1.extBut hs₁.extBut D.i1z) (hl1.extBut hs₁.extBut D.l1z) hx fun h₂ h1₂ hs₂ => wpAny_pure ?_)
  refine wpAny_pure ?_
  refine wpAny_bind ?_
  refine wpAny_bind ?_
  refine wpAny_holding ?_
  show wpAny _ _ (Builtin.SmallTypes.nextOf (.ref i2) >>= _) _ _ _
  refine wpAny_bind (wpAny_nextOf_list_item ((h2.extBut hs₁.extBut D.i2z).extBut hs₂.extBut D.i12.symm)
    ((hl2.extBut hs₁.extBut D.l2z).extBut hs₂.extBut D.l2i1) hy fun h₄ h2₄ hs₄ => wpAny_pure ?_)
  refine wpAny_pure ?_
  refine wpAny_pure ?_
  refine wpAny_bind (wpAny_newTuple (hsz := by show 2 ≤ sizeLine; decide) ?_)
  have hsz : h₄.objs.size = s.heap.objs.size := by rw [hs₄.1, hs₂.1, hs₁.1]
  have hz₄ : ZipQ h₄ z TI TO (rawInt T) true := hs₄.extBut _ _ D.i2z.symm (hs₂.extBut _ _ D.i1z.symm hz₁)
  have up : ∀ c o, h₄.get? c = some o → (h₄.push { cls := .type "tuple", data := .seq #[x, y] }).get? c = some o := fun c o e => Heap.get?_push_of_some _ e
  refine wpAny_pure ⟨_, rfl, ?_⟩
  show Q (.ref h₄.objs.size) _
  rw [hsz]
  refine hQ (h₄.push { cls := .type "tuple", data := .seq #[x, y] }) (up _ _ hz₄) ((h1₂.extBut hs₄.extBut D.i12).at fun o e => up _ o e) (h2₄.at fun o e => up _ o e) ?_ ?_ fun c o c1 c3 c4 e => up _ _ (hs₄.extBut _ _ c4 (hs₂.extBut _ _ c3 (hs₁.extBut _ _ c1 e)))
  · rw [← hsz]
    exact Heap.get?_push_size _ rfl
  · rw [Heap.size_push, hsz]
theorem out_end {z TI TO i1 i2 l1 l2 T : Addr} {f : Bool} {oT : Obj} {k1 k2 : Nat} {xs ys : Array Value} {Q : Fin → Shared → Prop} (hh : A.handled = none) (D : ZipApart z TI TO i1 i2 l1 l2)
    (hz : ZipQ s.heap z TI TO (rawInt T) f) (hT : s.heap.get? T = some oT) (hTI : IsPair s.heap TI (.ref i1) (.ref i2))
    (h1 : s.heap.IsListIter i1 l1 k1) (hl1 : s.heap.IsList l1 xs) (hx : xs[k1]? = none)
    (hE : ∀ h' e, (∀ c o, c ≠ z → c ≠ i1 → s.heap.get? c = some o → h'.get? c = some o) → (∃ o, h'.get? e = some o ∧ o.cls = .type "StopIteration") → E (.ref e) { s with heap := h' }) :
    wpAny (model prog w) A (Builtin.«zip.__next__» ⟨[.ref z], []⟩) Q E s := by
  show wpAny _ _ (field (.ref z) 2 >>= _) _ _ _
  refine wpAny_bind (wpAny_field hz rfl (x := .bool false) rfl ?_)
  show wpAny _ _ (field (.ref z) 3 >>= _) _ _ _
  refine wpAny_bind (wpAny_field hz rfl (x := .ref TI) rfl ?_)
  refine wpAny_bind (wpAny_seqItems hTI rfl ?_)
  show wpAny _ _ (Builtin.SmallTypes.ownedTupleIsFree (.ref z) >>= _) _ _ _
  refine wpAny_bind ?_
  have free : ∀ Q' : Bool → Shared → Prop, (∀ h₁, ZipQ h₁ z TI TO (rawInt T) true → Heap.SameBut z s.heap h₁ → Q' false { s with heap := h₁ }) → wpAny (model prog w) A (Builtin.SmallTypes.ownedTupleIsFree (.ref z)) Q' E s := by
    intro Q' q
    unfold Builtin.SmallTypes.ownedTupleIsFree
    refine wpAny_bind (wpAny_field hz rfl (x := rawInt T) rfl ?_)
    show wpAny _ _ (loadIfAlive ((T : Int).toNat) >>= _) _ _ _
    rw [Int.toNat_natCast]
    refine wpAny_bind (PySem.W.kdx_alive hT ?_)
    simp only [Option.isNone_some, Bool.false_eq_true, if_false]
    refine wpAny_bind (wpAny_field hz rfl (x := .bool f) rfl ?_)
    cases f with
    | true =>
      rw [if_neg (show ¬ ((Value.bool true != Value.bool true) = true) from Bool.false_ne_true)]
      exact wpAny_pure (q s.heap hz (Heap.SameBut.refl _ _))
    | false =>
      rw [if_pos (show (Value.bool false != Value.bool true) = true from rfl)]
      exact wpAny_bind (wpAny_setField_rec hz (by simp) fun h₃ he₃ hs₃ => wpAny_pure (q h₃ he₃ hs₃))
  refine free _ fun h₁ hz₁ hs₁ => ?_
  simp only [Bool.false_eq_true, if_false]
  refine wpAny_bind ?_
  rw [← Array.forIn_toList]
  simp only [List.forIn_cons, List.forIn_nil]
  refine wpAny_bind ?_
  refine wpAny_bind ?_
  refine wpAny_holding ?_
  show wpAny _ _ (Builtin.SmallTypes.nextOf (.ref i1) >>= _) _ _ _
  refine wpAny_bind (wpAny_nextOf_list_end hh (h1.extBut hs₁.extBut D.i1z) (hl1.extBut hs₁.extBut D.l1z) hx fun h₂ e hs₂ he => ?_)
  exact hE h₂ e (fun c o c1 c3 x => hs₂ _ _ c3 (hs₁.extBut _ _ c1 x)) he
theorem next_item {z TI TO i1 i2 l1 l2 T : Addr} {f : Bool} {oT : Obj} {k1 k2 : Nat} {xs ys : Array Value} {x y : Value} {Q : Option Value → Shared → Prop} (D : ZipApart z TI TO i1 i2 l1 l2)
    (hz : ZipQ s.heap z TI TO (rawInt T) f) (hT : s.heap.get? T = some oT) (hTI : IsPair s.heap TI (.ref i1) (.ref i2))
    (h1 : s.heap.IsListIter i1 l1 k1) (h2 : s.heap.IsListIter i2 l2 k2) (hl1 : s.heap.IsList l1 xs) (hl2 : s.heap.IsList l2 ys) (hx : xs[k1]? = some x) (hy : ys[k2]? = some y)
    (hQ : ∀ h', ZipQ h' z TI TO (rawInt T) true → h'.IsListIter i1 l1 (k1 + 1) → h'.IsListIter i2 l2 (k2 + 1) → IsPair h' s.heap.objs.size x y → h'.objs.size = s.heap.objs.size + 1 →
      (∀ c o, c ≠ z → c ≠ i1 → c ≠ i2 → s.heap.get? c = some o → h'.get? c = some o) → Q (some (.ref s.heap.objs.size)) { s with heap := h' }) :
    wpAny (model prog w) A (pyNext (.ref z)) Q E s := by
  have hTy : s.TypeIs (.ref z) "zip" := ⟨_, hz, rfl⟩
  unfold pyNext
  exact wpAny_bind (wpAny_attempt (wpAny_callSpecial?_slot (name := Str.ofString "__next__") hTy F.slot_zip_next
    (wpAny_call_entry F.slot_zip_next hTy F.entry_zip_next
      (out_item D hz hT hTI h1 h2 hl1 hl2 hx hy fun h' a1 a3 a4 a5 a6 a7 => wpAny_pure (hQ h' a1 a3 a4 a5 a6 a7)) (F.args_zip_next_1 _))))
theorem next_end {z TI TO i1 i2 l1 l2 T : Addr} {f : Bool} {oT : Obj} {k1 : Nat} {xs : Array Value} {Q : Option Value → Shared → Prop} (hh : A.handled = none) (D : ZipApart z TI TO i1 i2 l1 l2)
    (hz : ZipQ s.heap z TI TO (rawInt T) f) (hT : s.heap.get? T = some oT) (hTI : IsPair s.heap TI (.ref i1) (.ref i2))
    (h1 : s.heap.IsListIter i1 l1 k1) (hl1 : s.heap.IsList l1 xs) (hx : xs[k1]? = none)
    (hQ : ∀ h', (∀ c o, c ≠ z → c ≠ i1 → s.heap.get? c = some o → h'.get? c = some o) → Q none { s with heap := h' }) : wpAny (model prog w) A (pyNext (.ref z)) Q E s := by
  have hTy : s.TypeIs (.ref z) "zip" := ⟨_, hz, rfl⟩
  unfold pyNext
  refine wpAny_bind (wpAny_attempt (wpAny_callSpecial?_slot (name := Str.ofString "__next__") hTy F.slot_zip_next
    (wpAny_call_entry F.slot_zip_next hTy F.entry_zip_next (out_end (k2 := 0) (ys := #[]) (l2 := l2) hh D hz hT hTI h1 hl1 hx fun h' e hk he => ?_) (F.args_zip_next_1 _))))
  obtain ⟨o, ho, hc⟩ := he
  refine wpAny_bind (wpAny_isInstance (T := "StopIteration") (b := true) ⟨o, ho, hc⟩ isSubtype_stop ?_)
  exact wpAny_pure (hQ _ hk)
/-- as it stands in the midst, S the list that grows -/
structure Mid (h : Heap) (z TI TO i1 i2 l1 l2 S : Addr) (xs ys : Array Value) (k : Nat) : Prop where
  zp : ZipQ h z TI TO .none false ∨ ∃ (T : Addr) (f : Bool) (oT : Obj), ZipQ h z TI TO (rawInt T) f ∧ h.get? T = some oT ∧ T ≠ z ∧ T ≠ TO ∧ T ≠ i1 ∧ T ≠ i2 ∧ T ≠ S
  ti : IsPair h TI (.ref i1) (.ref i2)
  to : ∃ a b, IsPair h TO a b
  h1 : h.IsListIter i1 l1 k
  h2 : h.IsListIter i2 l2 k
  hl1 : h.IsList l1 xs
  hl2 : h.IsList l2 ys
/-- S apart from all of it -/
structure Off (S z TI TO i1 i2 l1 l2 : Addr) : Prop where
  z : z ≠ S
  ti : TI ≠ S
  to : TO ≠ S
  i1 : i1 ≠ S
  i2 : i2 ≠ S
  l1 : l1 ≠ S
  l2 : l2 ≠ S
theorem Mid.keep {h h' : Heap} {z TI TO i1 i2 l1 l2 S : Addr} {xs ys : Array Value} {k : Nat} (M : Mid h z TI TO i1 i2 l1 l2 S xs ys k) (O : Off S z TI TO i1 i2 l1 l2) (hk : ∀ b o, b ≠ S → h.get? b = some o → h'.get? b = some o) : Mid h' z TI TO i1 i2 l1 l2 S xs ys k where
  zp := M.zp.elim (fun e => .inl (hk _ _ O.z e)) fun ⟨T, f, oT, e1, e2, a, b, c, d, e⟩ => .inr ⟨T, f, oT, hk _ _ O.z e1, hk _ _ e e2, a, b, c, d, e⟩
  ti := hk _ _ O.ti M.ti
  to := let ⟨a, b, e⟩ := M.to; ⟨a, b, hk _ _ O.to e⟩
  h1 := M.h1.at fun o e => hk _ o O.i1 e
  h2 := M.h2.at fun o e => hk _ o O.i2 e
  hl1 := M.hl1.at fun o e => hk _ o O.l1 e
  hl2 := M.hl2.at fun o e => hk _ o O.l2 e
theorem mid_item {z TI TO i1 i2 l1 l2 S : Addr} {k : Nat} {xs ys : Array Value} {x y : Value} {Q : Option Value → Shared → Prop} (D : ZipApart z TI TO i1 i2 l1 l2) (hS : S < s.heap.objs.size) (M : Mid s.heap z TI TO i1 i2 l1 l2 S xs ys k) (hx : xs[k]? = some x) (hy : ys[k]? = some y)
    (hQ : ∀ h', Mid h' z TI TO i1 i2 l1 l2 S xs ys (k + 1) → IsPair h' s.heap.objs.size x y → h'.objs.size = s.heap.objs.size + 1 → (∀ c o, c ≠ z → c ≠ TO → c ≠ i1 → c ≠ i2 → s.heap.get? c = some o → h'.get? c = some o) → Q (some (.ref s.heap.objs.size)) { s with heap := h' }) :
    wpAny (model prog w) A (pyNext (.ref z)) Q E s := by
  have lt : ∀ {c o}, s.heap.get? c = some o → s.heap.objs.size ≠ c := fun e => Nat.ne_of_gt (Heap.lt_size e)
  obtain ⟨ta, tb, hTO⟩ := M.to
  have n1 : s.heap.objs.size ≠ i1 := by obtain ⟨_, e, _⟩ := M.h1; exact lt e
  have n2 : s.heap.objs.size ≠ i2 := by obtain ⟨_, e, _⟩ := M.h2; exact lt e
  rcases M.zp with hz | ⟨T, f, oT, hz, hT, t1, t2, t3, t4, t5⟩
  · refine wpAny_pyNext_zip_item D hz M.ti hTO M.h1 M.h2 M.hl1 M.hl2 hx hy fun h' a1 a2 a3 a4 a5 a6 hk => hQ h' ⟨.inr ⟨_, false, _, a1, a5, lt hz, lt hTO, n1, n2, Nat.ne_of_gt hS⟩, hk _ _ D.TIz D.TITO D.TIi1 D.TIi2 M.ti, ⟨_, _, a2⟩, a3, a4, M.hl1.at fun o e => hk _ o D.l1z D.l1TO D.l1i1 D.l1i2 e, M.hl2.at fun o e => hk _ o D.l2z D.l2TO D.l2i1 D.l2i2 e⟩ a5 a6 hk
  · refine next_item D hz hT M.ti M.h1 M.h2 M.hl1 M.hl2 hx hy fun h' a1 a3 a4 a5 a6 hk => hQ h' ⟨.inr ⟨T, true, oT, a1, hk _ _ t1 t3 t4 hT, t1, t2, t3, t4, t5⟩, hk _ _ D.TIz D.TIi1 D.TIi2 M.ti, ⟨_, _, hk _ _ D.TOz D.TOi1 D.TOi2 hTO⟩, a3, a4, M.hl1.at fun o e => hk _ o D.l1z D.l1i1 D.l1i2 e, M.hl2.at fun o e => hk _ o D.l2z D.l2i1 D.l2i2 e⟩ a5 a6 fun c o c1 _ c3 c4 e => hk c o c1 c3 c4 e
theorem mid_done {z TI TO i1 i2 l1 l2 S : Addr} {k : Nat} {xs ys : Array Value} {Q : Option Value → Shared → Prop} (hh : A.handled = none) (D : ZipApart z TI TO i1 i2 l1 l2) (M : Mid s.heap z TI TO i1 i2 l1 l2 S xs ys k) (hx : xs[k]? = none)
    (hQ : ∀ h', (∀ c o, c ≠ z → c ≠ TO → c ≠ i1 → c ≠ i2 → s.heap.get? c = some o → h'.get? c = some o) → Q none { s with heap := h' }) : wpAny (model prog w) A (pyNext (.ref z)) Q E s := by
  obtain ⟨ta, tb, hTO⟩ := M.to
  rcases M.zp with hz | ⟨T, f, oT, hz, hT, t1, t2, t3, t4, t5⟩
  · exact wpAny_pyNext_zip_end hh D hz M.ti hTO M.h1 M.h2 M.hl1 M.hl2 (.inl hx) hQ
  · exact next_end hh D hz hT M.ti M.h1 M.hl1 hx fun h' hk => hQ h' fun c o c1 _ c3 _ e => hk c o c1 c3 e
end
structure PrG (xs ys : Array Value) (lo : Addr) (h : Heap) (as : List Addr) : Prop where
  rise : as.Pairwise (· < ·)
  above : ∀ a ∈ as, lo < a
  pairs : ∀ (j : Nat) (a : Addr), as[j]? = some a → ∃ x y, xs[j]? = some x ∧ ys[j]? = some y ∧ h.get? a = some { cls := .type "tuple", data := .seq #[x, y] }
theorem PrG.there {xs ys : Array Value} {lo : Addr} {h : Heap} {as : List Addr} (g : PrG xs ys lo h as) {a : Addr} (ha : a ∈ as) : a < h.objs.size := by
  obtain ⟨j, hj⟩ := List.mem_iff_getElem?.mp ha
  obtain ⟨_, _, _, _, e⟩ := g.pairs j a hj
  exact Heap.lt_size e
section
variable {prog : Program} {w : World} {A : Around} {s : Shared} {R : Result → Shared → Prop} {xs ys : Array Value}
theorem zloop {S z TI TO i1 i2 l1 l2 : Addr} (hh : A.handled = none) (D : ZipApart z TI TO i1 i2 l1 l2) (O : Off S z TI TO i1 i2 l1 l2) (lz : z < S) (lTO : TO < S) (li1 : i1 < S) (li2 : i2 < S) (hn : xs.size ≤ sizeLine) (hxy : xs.size = ys.size) (res : Value) {h₁ : Heap}
    (hR : ∀ h' tk acc c as, (∀ b o, b ≠ S → b ≠ z → b ≠ TO → b ≠ i1 → b ≠ i2 → h₁.get? b = some o → h'.get? b = some o) → h'.get? S = some { cls := .type "list", dict := none, data := .seq acc c, slots := #[] } → as.length = xs.size → PrG xs ys S h' as →
      acc.toList = as.map Value.ref → R (.ok (.ret res)) { s with heap := h', toks := tk }) :
    ∀ (k i : Nat) (h : Heap) (tk c : Nat) (acc : Array Value) (as : List Addr), xs.size - i = k → i ≤ xs.size → Mid h z TI TO i1 i2 l1 l2 S xs ys i → (∀ b o, b ≠ S → b ≠ z → b ≠ TO → b ≠ i1 → b ≠ i2 → h₁.get? b = some o → h.get? b = some o) →
      h.get? S = some { cls := .type "list", dict := none, data := .seq acc c, slots := #[] } → acc.toList = as.map Value.ref → as.length = i → PrG xs ys S h as →
      codeAny (model prog w) A (.builtin "list.extend.loop" ⟨[.ref S, .ref z, res], []⟩) R { s with heap := h, toks := tk } := by
  intro k
  have above : ∀ {a : Addr}, S < a → a ≠ z ∧ a ≠ TO ∧ a ≠ i1 ∧ a ≠ i2 ∧ a ≠ S := fun {a} h => ⟨Nat.ne_of_gt (Nat.lt_trans lz h), Nat.ne_of_gt (Nat.lt_trans lTO h), Nat.ne_of_gt (Nat.lt_trans li1 h), Nat.ne_of_gt (Nat.lt_trans li2 h), Nat.ne_of_gt h⟩
  induction k with
  | zero =>
    intro i h tk c acc as hk hi hst hkeep hS hacc hal hG
    refine codeAny_builtin PySem.F.entry_extend_loop ?_
    rw [Around.under_plainId PySem.F.plain_extend_loop _]
    show wpAny _ A.in1 (pyNext (.ref z) >>= _) _ _ _
    refine wpAny_bind (mid_done (s := { s with heap := h, toks := tk }) (A := A.in1) hh D hst (Array.getElem?_eq_none (by omega)) fun h' he => ?_)
    refine wpAny_pure (hR h' tk acc c as (fun b o h1 h2 h3 h4 h5 e => he b o h2 h3 h4 h5 (hkeep b o h1 h2 h3 h4 h5 e)) (he S _ O.z.symm O.to.symm O.i1.symm O.i2.symm hS) (by omega) ⟨hG.rise, hG.above, fun j a hj => ?_⟩ hacc)
    obtain ⟨x, y, e1, e2, e3⟩ := hG.pairs j a hj
    obtain ⟨n1, n2, n3, n4, _⟩ := above (hG.above a (List.mem_of_getElem? hj))
    exact ⟨x, y, e1, e2, he a _ n1 n2 n3 n4 e3⟩
  | succ k ih =>
    intro i h tk c acc as hk hi hst hkeep hS hacc hal hG
    have hlt : i < xs.size := by omega
    have hx : xs[i]? = some xs[i] := Array.getElem?_eq_getElem hlt
    have hy : ys[i]? = some (ys[i]'(by omega)) := Array.getElem?_eq_getElem (by omega)
    have hsz : acc.size = i := by rw [← Array.length_toList, hacc, List.length_map, hal]
    refine codeAny_builtin PySem.F.entry_extend_loop ?_
    rw [Around.under_plainId PySem.F.plain_extend_loop _]
    show wpAny _ A.in1 (pyNext (.ref z) >>= _) _ _ _
    have hSl : S < h.objs.size := Heap.lt_size hS
    refine wpAny_bind (mid_item (s := { s with heap := h, toks := tk }) D hSl hst hx hy fun h' hst' ht hz hkp => ?_)
    dsimp only at ht hz hkp ⊢
    have hS' := hkp S _ O.z.symm O.to.symm O.i1.symm O.i2.symm hS
    have up : ∀ b o, b ≠ S → h'.get? b = some o → (h'.update S (Obj.mapSeq (·.push (Value.ref h.objs.size)))).get? b = some o := fun b o hb e => (Heap.get?_update_other _ _ (Ne.symm hb)).trans e
    show wpAny _ A.in1 (updateSeq S (·.push (Value.ref h.objs.size)) >>= _) _ _ _
    refine wpAny_bind ?_
    refine wpAny_updateSeq hS' rfl (wpAny_pure ⟨plainId_quiet PySem.F.plain_extend_loop _, ih (i + 1) _ tk _ (acc.push (Value.ref h.objs.size)) (as ++ [h.objs.size]) (by omega) hlt (hst'.keep O up)
      (fun b o h1 h2 h3 h4 h5 e => up b o h1 (hkp b o h2 h3 h4 h5 (hkeep b o h1 h2 h3 h4 h5 e))) (Heap.get?_update_self _ hS' rfl) (by rw [Array.toList_push, hacc, List.map_append]; rfl) (by rw [List.length_append, hal]; rfl) ⟨?_, ?_, ?_⟩⟩) (by rw [hsz]; omega) (by show (acc.push (Value.ref h.objs.size)).size ≤ sizeLine + 1; rw [Array.size_push, hsz]; omega)
    · refine List.pairwise_append.mpr ⟨hG.rise, List.pairwise_singleton _ _, fun a ha b hb => ?_⟩
      rw [List.mem_singleton.mp hb]
      exact hG.there ha
    · intro a ha
      rcases List.mem_append.mp ha with ha | ha
      · exact hG.above a ha
      · rw [List.mem_singleton.mp ha]; exact hSl
    · intro j b hj
      rcases Nat.lt_trichotomy j as.length with h1 | h1 | h1
      · rw [List.getElem?_append_left h1] at hj
        obtain ⟨x', y', e1, e2, e3⟩ := hG.pairs j b hj
        obtain ⟨n1, n2, n3, n4, n5⟩ := above (hG.above b (List.mem_of_getElem? hj))
        exact ⟨x', y', e1, e2, up b _ n5 (hkp b _ n1 n2 n3 n4 e3)⟩
      · subst h1
        have hb : h.objs.size = b := by simpa using hj
        subst hb
        exact ⟨_, _, by rw [hal]; exact hx, by rw [hal]; exact hy, up _ _ (Nat.ne_of_gt hSl) ht⟩
      · have hnone : (as ++ [h.objs.size])[j]? = none := List.getElem?_eq_none (by rw [List.length_append, List.length_singleton]; omega)
        rw [hnone] at hj; cases hj
end
theorem no_len : typeLookup (.type "zip") "__len__" = pure none := by rw [typeLookup_type, builtinLookup_eq_fast]; kernel_rfl
theorem no_hint : typeLookup (.type "zip") "__length_hint__" = pure none := by rw [typeLookup_type, builtinLookup_eq_fast]; kernel_rfl
section
variable {prog : Program} {w : World} {A : Around} {E : Value → Shared → Prop} {s : Shared} {xs ys : Array Value}
theorem hint_zip {r : Addr} (hT : s.TypeIs (.ref r) "zip") {Q : Bool → Shared → Prop} (h : Q true s) : wpAny (model prog w) A (Builtin.List.listLengthHint (.ref r)) Q E s := by
  unfold Builtin.List.listLengthHint
  refine wpAny_bind (wpAny_specialOf hT no_len ?_)
  show wpAny _ _ (specialOf (Value.ref r) (Str.ofString "__length_hint__") >>= _) _ _ _
  refine wpAny_bind (wpAny_specialOf hT no_hint ?_)
  exact wpAny_pure h
theorem zextend {R : Result → Shared → Prop} {S z TI TO i1 i2 l1 l2 : Addr} (hh : A.handled = none) (D : ZipApart z TI TO i1 i2 l1 l2) (O : Off S z TI TO i1 i2 l1 l2) (lz : z < S) (lTO : TO < S) (li1 : i1 < S) (li2 : i2 < S) (hn : xs.size ≤ sizeLine) (hxy : xs.size = ys.size) (res : Value)
    (M : Mid s.heap z TI TO i1 i2 l1 l2 S xs ys 0) (hz0 : IsZip s.heap z TI TO .none) (c₀ : Nat) (hS : s.heap.get? S = some { cls := .type "list", data := .seq #[] c₀ })
    (hR : ∀ h' tk acc c as, (∀ b o, b ≠ S → b ≠ z → b ≠ TO → b ≠ i1 → b ≠ i2 → s.heap.get? b = some o → h'.get? b = some o) → h'.get? S = some { cls := .type "list", dict := none, data := .seq acc c, slots := #[] } → as.length = xs.size → PrG xs ys S h' as →
      acc.toList = as.map Value.ref → R (.ok (.ret res)) { s with heap := h', toks := tk }) :
    wpAny (model prog w) A.in1 (Builtin.List.listExtendWith (.ref S) (.ref z) res)
      (fun fin s' => match fin with | .done f => R (.ok f) s' | .again c' => c'.quiet = true ∧ codeAny (model prog w) A c' R s') (fun e s' => R (.error e) s') s := by
  have hTy : s.TypeIs (.ref z) "zip" := ⟨_, hz0, rfl⟩
  have key : ∀ (h : Heap) (c₁ tk : Nat), (∀ b o, b ≠ S → s.heap.get? b = some o → h.get? b = some o) →
      h.get? S = some { cls := .type "list", data := .seq #[] c₁ } → codeAny (model prog w) A (.builtin "list.extend.loop" ⟨[.ref S, .ref z, res], []⟩) R { s with heap := h, toks := tk } := by
    intro h c₁ tk hk hS₁
    exact zloop (s := s) (h₁ := s.heap) hh D O lz lTO li1 li2 hn hxy res hR xs.size 0 h tk c₁ #[] [] (Nat.sub_zero _) (Nat.zero_le _) (M.keep O hk) (fun b o hb _ _ _ _ e => hk b o hb e) hS₁ rfl rfl
      ⟨List.Pairwise.nil, (fun _ ha => nomatch ha), (fun j a hj => by simp at hj)⟩
  unfold Builtin.List.listExtendWith
  refine wpAny_bind (wpAny_typeOf (T := "zip") hTy ?_)
  have h1 : Builtin.List.listSameRef (.ref S) (.ref z) = false := by simp [Builtin.List.listSameRef, O.z.symm]
  have h2 : (Value.type "zip" == Value.type "list") = false := by decide
  have h3 : (Value.type "zip" == Value.type "tuple") = false := by decide
  simp only [h1, h2, h3, Bool.or_false, Bool.false_eq_true, if_false]
  refine wpAny_bind (wpAny_pyIter_zip hz0 ?_)
  refine wpAny_bind (wpAny_holding (hint_zip hTy ?_))
  refine wpAny_ite_split (fun _ => ?_) (fun _ => wpAny_pure ⟨plainId_quiet PySem.F.plain_extend_loop _, key _ c₀ _ (fun b o _ e => e) hS⟩)
  refine wpAny_bind (wpAny_rule ?_)
  refine wpAny_bind ?_
  show wpAny _ _ (updateSeq S (·.push .none) >>= fun _ => updateSeq S (·.pop)) _ _ _
  refine wpAny_bind (wpAny_updateSeq hS rfl ?_)
  have hS₂ := Heap.get?_update_self (Obj.mapSeq (·.push Value.none)) hS rfl
  refine wpAny_updateSeq (hz := by seq_fits) hS₂ rfl ?_
  have hS₃ := Heap.get?_update_self (Obj.mapSeq (·.pop)) hS₂ rfl
  refine wpAny_pure ⟨plainId_quiet PySem.F.plain_extend_loop _, key _ _ _ (fun b o hb e => ?_) hS₃⟩
  exact (Heap.get?_update_other _ _ (Ne.symm hb)).trans ((Heap.get?_update_other _ _ (Ne.symm hb)).trans e)
theorem zcall {Q : Value → Shared → Prop} {z TI TO i1 i2 l1 l2 : Addr} (hh : A.handled = none) (D : ZipApart z TI TO i1 i2 l1 l2) (hn : xs.size ≤ sizeLine) (hxy : xs.size = ys.size)
    (hz : IsZip s.heap z TI TO .none) (hTI : IsPair s.heap TI (.ref i1) (.ref i2)) (hTO : ∃ a b, IsPair s.heap TO a b) (h1 : s.heap.IsListIter i1 l1 0) (h2 : s.heap.IsListIter i2 l2 0) (hl1 : s.heap.IsList l1 xs) (hl2 : s.heap.IsList l2 ys)
    (hQ : ∀ h' tk acc c as, (∀ b o, b ≠ z → b ≠ TO → b ≠ i1 → b ≠ i2 → s.heap.get? b = some o → h'.get? b = some o) → h'.get? s.heap.objs.size = some { cls := .type "list", dict := none, data := .seq acc c, slots := #[] } → as.length = xs.size → PrG xs ys s.heap.objs.size h' as →
      acc.toList = as.map Value.ref → Q (.ref s.heap.objs.size) { s with heap := h', toks := tk }) :
    wpAny (model prog w) A (call (.type "list") [.ref z]) Q E s := by
  refine callType_codes (Q₁ := fun obj s₁ => obj = .ref s.heap.objs.size ∧ s₁ = { s with heap := s.heap.push { cls := .type "list", data := .seq #[] } }) PySem.F.called_list (PySem.F.typeCall_list_1 _) PySem.F.entry_list_init
    (code_list_new _ ⟨rfl, rfl⟩) fun obj s₁ h₁ => ?_
  obtain ⟨rfl, rfl⟩ := h₁
  have hS : (s.heap.push { cls := .type "list", data := .seq #[] }).get? s.heap.objs.size = some { cls := .type "list", data := .seq #[] } := Heap.get?_push_size _ rfl
  have lt : ∀ {c o}, s.heap.get? c = some o → c < s.heap.objs.size := fun e => Heap.lt_size e
  obtain ⟨ta, tb, hTO'⟩ := hTO
  have g1 : i1 < s.heap.objs.size := by obtain ⟨_, e, _⟩ := h1; exact lt e
  have g2 : i2 < s.heap.objs.size := by obtain ⟨_, e, _⟩ := h2; exact lt e
  have g3 : l1 < s.heap.objs.size := by obtain ⟨_, e, _⟩ := hl1; exact lt e
  have g4 : l2 < s.heap.objs.size := by obtain ⟨_, e, _⟩ := hl2; exact lt e
  have O : Off s.heap.objs.size z TI TO i1 i2 l1 l2 := ⟨Nat.ne_of_lt (lt hz), Nat.ne_of_lt (lt hTI), Nat.ne_of_lt (lt hTO'), Nat.ne_of_lt g1, Nat.ne_of_lt g2, Nat.ne_of_lt g3, Nat.ne_of_lt g4⟩
  have M0 : Mid s.heap z TI TO i1 i2 l1 l2 s.heap.objs.size xs ys 0 := ⟨.inl hz, hTI, ⟨_, _, hTO'⟩, h1, h2, hl1, hl2⟩
  refine ⟨⟨_, hS, rfl⟩, PySem.F.args_list_init_2 _ _, ?_⟩
  show wpAny _ _ (do let old ← Builtin.List.listItems (.ref s.heap.objs.size); Builtin.List.listUpdate (.ref s.heap.objs.size) (fun _ => #[]); letGo old.toList.reverse; Builtin.List.listExtendWith (.ref s.heap.objs.size) (.ref z) .none) _ _ _
  refine wpAny_bind ?_
  unfold Builtin.List.listItems
  refine wpAny_bind (wpAny_seqItems hS rfl (wpAny_pure ?_))
  show wpAny _ _ (updateSeq s.heap.objs.size (fun _ => #[]) >>= fun _ => letGo (#[] : Array Value).toList.reverse >>= fun _ => Builtin.List.listExtendWith (.ref s.heap.objs.size) (.ref z) .none) _ _ _
  refine wpAny_bind (wpAny_updateSeq hS rfl ?_)
  have hS₂ := Heap.get?_update_self (Obj.mapSeq (fun _ => (#[] : Array Value))) hS rfl
  have oth : ∀ b o, b ≠ s.heap.objs.size → s.heap.get? b = some o → ((s.heap.push { cls := .type "list", data := .seq #[] }).update s.heap.objs.size (Obj.mapSeq (fun _ => (#[] : Array Value)))).get? b = some o :=
    fun b o hb e => (Heap.get?_update_other _ _ (Ne.symm hb)).trans (Heap.get?_push_of_some _ e)
  refine wpAny_bind (wpAny_letGo ?_)
  refine zextend (A := A.in1) (xs := xs) (ys := ys) hh D O (lt hz) (lt hTO') g1 g2 hn hxy .none (M0.keep O oth) (oth _ _ O.z hz) _ hS₂ fun h' tk acc c as hk hS' hl hG hacc => ⟨rfl, hQ h' tk acc c as (fun b o n1 n2 n3 n4 e => ?_) hS' hl hG hacc⟩
  have hb := Nat.ne_of_lt (lt e)
  exact hk b o hb n1 n2 n3 n4 (oth b o hb e)
end
end LZ

set_option Elab.async false
set_option linter.all false
set_option maxRecDepth 100000
set_option maxHeartbeats 4000000
/-! list(zip(xs, ys)), over the layer -/
namespace LZ
open PySem PySem.Spec PyProof.Rows L2
open LiI (vals_refs paired_ix paired_get)
def putP : Hp → List Addr → List (V × V) → Hp
  | H, a :: as, p :: kvs => putP (upd H a (.tup [p.1, p.2])) as kvs
  | H, _, _ => H
theorem putP_off {b : Addr} : ∀ (as : List Addr) (kvs : List (V × V)) (H : Hp), b ∉ as → putP H as kvs b = H b
  | [], _, _, _ => rfl
  | _ :: _, [], _, _ => rfl
  | a :: as, p :: kvs, H, h => by
    show putP (upd H a (.tup [p.1, p.2])) as kvs b = H b
    rw [putP_off as kvs _ (fun z => h (List.mem_cons_of_mem _ z)), upd_ne (fun z => h (by rw [z]; exact List.mem_cons_self))]
theorem putP_at : ∀ (as : List Addr) (kvs : List (V × V)) (H : Hp), as.length = kvs.length → as.Nodup → Paired (fun (t : Addr) (p : V × V) => putP H as kvs t = some (.tup [p.1, p.2])) as kvs
  | [], [], _, _, _ => .nil
  | [], _ :: _, _, h, _ => by cases h
  | _ :: _, [], _, h, _ => by cases h
  | a :: as, p :: kvs, H, h, hn => by
    have hn' := List.nodup_cons.mp hn
    have ih := putP_at as kvs (upd H a (.tup [p.1, p.2])) (Nat.succ.inj h) hn'.2
    refine .cons ?_ ih
    show putP (upd H a (.tup [p.1, p.2])) as kvs a = some (.tup [p.1, p.2])
    rw [putP_off as kvs _ hn'.1, upd_same]
def rZipL (K : PySem.W.Frag) : List V → Hp → VK → Prop := fun vs H Q => ∃ (a b : Addr) (xs ys : List V), vs = [.ref a, .ref b] ∧ SqL K H a xs ∧ SqL K H b ys ∧ xs.length = ys.length ∧ xs.length ≤ sizeLine ∧
  ∀ (H' : Hp) (p : Addr) (ts : List Addr), Same H H' → H p = none → (∀ t ∈ ts, H t = none) → H' p = some (.lst (ts.map V.ref)) → Paired (fun (t : Addr) (q : V × V) => H' t = some (.tup [q.1, q.2])) ts (xs.zip ys) → Q (.ref p) H'
def tListZip (K : PySem.W.Frag) (ta : TA) : TE := fun σ H Q => ta σ H fun vs H1 => rZipL K vs H1 Q
section
variable {X : Cx}
theorem vals_get {vs : List V} {us : List Value} (h : Vals vs us) {i : Nat} {u : Value} (e : us[i]? = some u) : ∃ v, vs[i]? = some v ∧ RelV v u := by
  induction h generalizing i with
  | nil => cases e
  | cons r t ih =>
    cases i with
    | zero =>
      obtain rfl := Option.some.inj e
      exact ⟨_, rfl, r⟩
    | succ i => exact ih e
theorem laidP {pins : List (Addr × Obj)} {σ : L2.St} {H : Hp} {s : Shared} {h' : Heap} {tk : Nat} {xs ys : List V} {us ws : List Value} {acc : Array Value} {c : Nat} {as : List Addr} {S : Addr} (I : Inv X pins σ H s) (hz : xs.length ≤ sizeLine) (hxy : xs.length = ys.length) (vx : Vals xs us) (vy : Vals ys ws)
    (hSz : s.heap.objs.size ≤ S) (hk : ∀ b o, s.heap.get? b = some o → h'.get? b = some o) (hS : h'.get? S = some { cls := .type "list", dict := none, data := .seq acc c, slots := #[] }) (hl : as.length = us.length) (hG : PrG us.toArray ws.toArray S h' as) (hacc : acc.toList = as.map Value.ref) :
    ∃ H' : Hp, Same H H' ∧ H S = none ∧ (∀ t ∈ as, H t = none) ∧ H' S = some (.lst (as.map V.ref)) ∧ Paired (fun (t : Addr) (q : V × V) => H' t = some (.tup [q.1, q.2])) as (xs.zip ys) ∧ Inv X pins σ H' { s with heap := h', toks := tk } := by
  have lk : xs.length = us.length := vx.length
  have lz : (xs.zip ys).length = xs.length := by rw [List.length_zip, ← hxy, Nat.min_self]
  have hSn : S ∉ as := fun z => Nat.lt_irrefl _ (hG.above _ z)
  have nd : as.Nodup := List.Pairwise.imp (fun {a b} (h : a < b) => Nat.ne_of_lt h) hG.rise
  have new : ∀ t ∈ as, H t = none := fun t ht => I.hok.fresh (Nat.le_trans hSz (Nat.le_of_lt (hG.above t ht)))
  have newS : H S = none := I.hok.fresh hSz
  have atP := putP_at as (xs.zip ys) (upd H S (.lst (as.map V.ref))) (by omega) nd
  have off : ∀ b, b ∉ as → b ≠ S → putP (upd H S (.lst (as.map V.ref))) as (xs.zip ys) b = H b := fun b h1 h2 => by rw [putP_off as _ _ h1, upd_ne h2]
  have low : ∀ b o, s.heap.get? b = some o → b ∉ as ∧ b ≠ S := fun b o e => ⟨fun z => absurd (Heap.lt_size e) (Nat.not_lt.mpr (Nat.le_trans hSz (Nat.le_of_lt (hG.above b z)))), Nat.ne_of_lt (Nat.lt_of_lt_of_le (Heap.lt_size e) hSz)⟩
  have kp : ∀ b u, H b = some u → (putP (upd H S (.lst (as.map V.ref))) as (xs.zip ys)) b = some u := fun b u e => by
    rw [off b (fun z => by rw [new b z] at e; cases e) (fun z => by rw [z, newS] at e; cases e)]
    exact e
  have eS : putP (upd H S (.lst (as.map V.ref))) as (xs.zip ys) S = some (.lst (as.map V.ref)) := by rw [putP_off as _ _ hSn, upd_same]
  refine ⟨putP (upd H S (.lst (as.map V.ref))) as (xs.zip ys), kp, newS, new, eS, atP, ?_⟩
  refine I.call' (ch := []) rfl ⟨fun b o q _ _ _ => hk b o q, fun b o q _ _ _ => ⟨o.slots, hk b o q⟩, fun b o q n _ => ?_, fun b o q _ => ⟨o, hk b o q⟩, fun b xs q => kp b _ q, fun b o u q => kp b _ q, fun b ps q => ⟨#[], by rw [kp b _ q]; simp⟩⟩ (fun b u q => ?_) I.bare fun b z => by simp at z
  · obtain ⟨z1, z2⟩ := low b o q
    rw [off b z1 z2]
    exact n
  · by_cases hb : b ∈ as
    · obtain ⟨j, pk, e1, e2, e3⟩ := paired_ix atP hb
      rw [e3] at q
      cases q
      obtain ⟨x, y, f1, f2, f3⟩ := hG.pairs j b e1
      obtain ⟨v1, g1, r1⟩ := vals_get vx (i := j) (u := x) (by simpa using f1)
      obtain ⟨v2, g2, r2⟩ := vals_get vy (i := j) (u := y) (by simpa using f2)
      have : (xs.zip ys)[j]? = some (v1, v2) := by
        rw [List.getElem?_zip_eq_some]
        exact ⟨g1, g2⟩
      rw [this] at e2
      cases e2
      exact ⟨by show 2 ≤ sizeLine; decide, [x, y], .cons r1 (.cons r2 .nil), ⟨_, f3, rfl, _, rfl⟩⟩
    · by_cases hb2 : b = S
      · rw [hb2] at q ⊢
        rw [eS] at q
        cases q
        refine ⟨by rw [List.length_map]; omega, acc.toList, c, by rw [hacc]; exact LiI.vals_refs as, ?_⟩
        rw [Array.toArray_toList]
        exact hS
      · rw [off b hb hb2] at q
        exact (I.hok b u q).stay (fun d v _ y => hk d v y) (fun d y => kp d _ y) fun d xs y => kp d _ y
/-- list(zip(e, e2)) -/
theorem pe_listZip {e e2 : Expr} {ta : TA} {p p2 cpos pos : Pos} (hc : X.calm = true) (ha : PA X [e, e2] ta) (hg : Gl X "list") (hm : X.mg "list" = none) (hv : bootBuiltins "list" = some (.type "list")) (hgz : Gl X "zip") (hmz : X.mg "zip" = none)
    (hsz : starEach [e, e2] X.env = (false, eval e X.env) :: starEach [e2] X.env := by rfl) (hpl : (backTo cpos (starEach [e2] X.env)).any (·.1) = false := by rfl)
    (hs : starEach [.Call (.Name "zip" p2) [e, e2] [] cpos] X.env = (false, eval (.Call (.Name "zip" p2) [e, e2] [] cpos) X.env) :: starEach [] X.env := by rfl) :
    PE X (.Call (.Name "list" p) [.Call (.Name "zip" p2) [e, e2] [] cpos] [] pos) (tListZip X.K ta) := by
  refine ⟨fun pins s σ H Q I hq => ?_⟩
  refine wpAny_Call_Name_kw (ld_blt I hg hm hv ?_)
  refine PyProof.Rows.callWith_type1 ?_ hs rfl
  rw [hs]
  show wpAny _ _ (spliced ((false, eval (.Call (.Name "zip" p2) [e, e2] [] cpos) X.env) :: backTo pos (starEach [] X.env))) _ _ s
  refine Calls.spliced_cons ?_
  refine Call_ (ld_blt I hgz hmz PyProof.Rows.boot_zip (PyProof.Rows.callWith_type1 (thn (ha.run cpos pins s σ H _ I hq) fun us s1 ⟨vs, H1, I1, r1, q1⟩ => ?_) hsz hpl))
  obtain ⟨a, b, xs, ys, ex, hqx, hqy, hxy, hz, q⟩ := q1
  subst ex
  cases r1 with
  | cons r rr =>
    cases rr with
    | cons r' rr =>
      cases rr
      cases r
      cases r'
      obtain ⟨its, rv, p1, _⟩ := I1.list hqx
      obtain ⟨its2, rv2, p2, _⟩ := I1.list hqy
      have l1 := rv.length
      have l2 := rv2.length
      refine call_zip_2 p1.isList p2.isList fun h' hz' hTI hTO h1 h2 hsz5 hk => ?_
      refine Calls.spliced_nil ?_
      have D := PySem.W.ktu_apart s1.heap.objs.size a b p1.lt p2.lt
      refine zcall (s := { s1 with heap := h' }) (xs := its.toArray) (ys := its2.toArray) (I1.ok.hd hc) D (by simp; omega) (by simp; omega) hz' hTI ⟨_, _, hTO⟩ h1 h2 (p1.isList.at fun o e => hk _ o e) (p2.isList.at fun o e => hk _ o e) fun h'' tk acc c as hk2 hS hl hG hacc => ?_
      have low : ∀ b o, s1.heap.get? b = some o → h''.get? b = some o := fun b o e => by
        have lo : ∀ k : Nat, b ≠ s1.heap.objs.size + k := fun k => Nat.ne_of_lt (Nat.lt_of_lt_of_le (Heap.lt_size e) (Nat.le_add_right _ _))
        exact hk2 b o (lo 4) (lo 3) (lo 0) (lo 1) (hk b o e)
      obtain ⟨H', k1, k2, k3, k4, k5, J⟩ := laidP (tk := tk) (S := h'.objs.size) I1 hz hxy rv rv2 (by omega) low hS (by simpa using hl) hG hacc
      exact ⟨.ref _, H', J, rfl, q H' _ as k1 k2 k3 k4 k5⟩
end
end LZ

set_option Elab.async false
set_option linter.all false
set_option maxRecDepth 100000
set_option maxHeartbeats 4000000
/-! methods of dicts of nested keys; d[k] of them -/
namespace ND
open PySem PySem.Spec PyProof.Rows L2
section
variable {X : Cx}
def tDM (P : Program) (w : World) (r : V → List V → Hp → VK → Prop) (to : TE) (t : TA) : TE := fun σ H Q => to σ H fun x H1 => (∃ d kvs, x = .ref d ∧ DN P w H1 d kvs) ∧ t σ H1 fun xs H2 => r x xs H2 Q
theorem pe_dm {o e : Expr} {es : List Expr} {to : TE} {t : TA} {name : Str} {apos cpos : Pos} {id : String} {r : V → List V → Hp → VK → Prop} (slot : Slot "dict" name id) (hty : typeOf (.builtin id) = pure (.type "method_descriptor")) (hm : MtR X id r) (ho : PE X o to) (ha : PA X (e :: es) t)
    (hbase : attributeBase o name X.env (eval o X.env) = eval o X.env := by rfl) (hfew : ((((backTo cpos (starEach (e :: es) X.env)).all fun x => !x.1) && (backToKw cpos (keywordEach [] X.env)).all fun x => x.1.isSome) && decide (((e :: es).length + ([] : List Keyword).length + if ([] : List Keyword).isEmpty = true then 0 else 1) < 30)) = true := by rfl)
    (hline : (apos.endLine == cpos.line) = true := by rfl) (hs : starEach (e :: es) X.env = (false, eval e X.env) :: starEach es X.env := by rfl) (hplain : ((backTo cpos (starEach es X.env)).any fun x => x.1) = false := by rfl) :
    PE X (.Call (.Attribute o name apos) (e :: es) [] cpos) (tDM X.prog X.w r to t) := by
  refine ⟨fun pins s σ H Q I h => ?_⟩
  refine wpAny_Call_method_late hbase hfew hline rfl ?_
  refine thn (ho.run pins s σ H _ I h) fun v s1 ⟨x, H1, I1, r1, ⟨d, kvs, ex, et⟩, q1⟩ => ?_
  subst ex
  obtain rfl : v = .ref d := r1
  obtain ⟨xs, ep, e1, _⟩ := et
  obtain ⟨o', es', g, ed, _⟩ := (I1.hok _ _ e1).1
  refine ⟨"dict", id, F.plainAttrs_dict, slot, hty, ⟨o', g, ed.1⟩, fun b hb => by cases hb; exact ⟨o', g, ed.2.1⟩, ?_⟩
  have hA := ha.run cpos pins s1 σ H1 (fun xs H2 => r (.ref d) xs H2 Q) I1 q1
  rw [hs] at hA ⊢
  refine Calls.callWith_builtin (by rw [show backTo cpos ((false, eval e X.env) :: starEach es X.env) = (false, eval e X.env) :: backTo cpos (starEach es X.env) from rfl, List.any_cons, hplain]; rfl) ?_
  refine Calls.evalArgs_plain (thn hA fun us s2 ⟨vs, H2, I2, r2, q2⟩ => ?_)
  exact hm pins s2 σ H2 (.ref d) vs (.ref d) us Q I2 rfl r2 q2
theorem ix_nd (hu : X.A.units + 9 < cLine) : IxR X (rGetN X.prog X.w) := by
  intro value slice pins s σ H x y v u Q I rx ry h hs
  have h0 := h
  obtain ⟨d, a, k, kvs, z, rfl, rfl, hD, _⟩ := h0
  obtain rfl : v = .ref d := rx
  obtain ⟨xs, ep, e1, _⟩ := hD
  obtain ⟨o', es', g, ed, _⟩ := (I.hok _ _ e1).1
  exact PyProof.Rows.tail_any (T := "dict") ⟨o', g, ed.1⟩ slot_dict_getitem.lookup (get_nd (x := .ref d) (y := .ref a) (v := .ref d) hu I rfl ry h) hs
end
end ND

set_option Elab.async false
set_option linter.all false
set_option maxRecDepth 100000
set_option maxHeartbeats 4000000
/-! {key: value for .. in ..}, the keys tuples within tuples -/
namespace ND
open PySem PySem.Spec PyProof.Rows L2
section
variable {X : Cx}
/-- the entry that a turn brings, then on -/
def Brings (P : Program) (w : World) (D : Addr) (y z : V) (H : Hp) (N : Hp → Prop) : Prop := ∃ a k kvs, y = .ref a ∧ DN P w H D kvs ∧ Nk H (.ref a) k ∧ k.depth ≤ 8 ∧ kvs.length ≤ 100000 ∧ ∀ φ, DN P w (upd H D (.ext φ)) D (putN kvs k z) → N (upd H D (.ext φ))
theorem brings_ok (hu : X.A.units + 9 < cLine) {pins : List (Addr × Obj)} {σ : L2.St} {H : Hp} {s : Shared} {D : Addr} {y z : V} {u r : Value} {N : Hp → Prop} {E : Value → Shared → Prop} (I : Inv X pins σ H s) (ry : RelV y u) (rz : RelV z r) (h : Brings X.prog X.w D y z H N) :
    wpAny (model X.prog X.w) X.A (dictSet D u r) (fun _ s' => ∃ H', Inv X pins σ H' s' ∧ N H') E s := by
  obtain ⟨a, k, kvs, rfl, hD, hk, h8, hl, q⟩ := h
  obtain rfl : u = .ref a := ry
  obtain ⟨xs, ep, e1, e2, e3, F⟩ := hD.keyed I.hok
  refine wpAny_dictSet_heap (knd := nestedKind X.prog X.w) (by show X.A.units + 8 < cLine; omega) ⟨hk.is I.hok rfl, h8⟩ F (fun h' F' sb => ?_) (by rw [← paired_len e2]; exact Nat.le_trans hl (by rw [sizeLine_eq]; decide))
  have F2 := F'
  obtain ⟨o', es', ep', g1, g2, g3, g4, _, _⟩ := F'
  exact ⟨_, I.write (x := D) (e := D) (o := .ext (Raw X.prog X.w D (storedH xs k a r) ep')) (by rw [e1]; trivial) (.inl rfl) (fun b ob n g => by rw [sb.2 b n]; exact g) ⟨o', g1⟩ (Raw.ok ⟨o', es', g1, g2, g3, g4⟩), q _ (DN.wrote e1 e2 e3 hk h8 rz F2)⟩
/-- one turn: what stands ahead of it, what the block does -/
def TurnN (P : Program) (w : World) (J : It) (g : TG) (tt : TT) (tk tv : TE) (τ : L2.St) (vs : List Nat) (D : Addr) (i : Nat) (H : Hp) (N : Hp → Prop) : Prop := ∀ x H', J.yld i H x H' → g x τ H' fun σ2 H2 => wipe σ2 vs = τ ∧ tt σ2 H2 fun b H3 =>
  if b = true then tk σ2 H3 fun y H4 => tv σ2 H4 fun z H5 => Brings P w D y z H5 N else N H3
def tDcN (P : Program) (w : World) (wi : TI) (g : TG) (tt : TT) (tk tv : TE) (vs : List Nat) : TE := fun σ H Q => wi σ H fun J H1 => ∀ D φ, H1 D = none → DN P w (upd H1 D (.ext φ)) D [] → ∃ W : Nat → Nat → Hp → Prop, (∃ m, W 0 m (upd H1 D (.ext φ))) ∧ ∀ i m H, W i m H →
  (J.stop i H ∧ Q (.ref D) H) ∨ (J.go i H ∧ ∃ N : Hp → Prop, (∀ H', N H' → ∃ m', m' < m ∧ W (i + 1) m' H') ∧ TurnN P w J g tt tk tv (wipe σ vs) vs D i H N)
/-- a new empty dict, as one of nested keys -/
theorem fresh_nd {pins : List (Addr × Obj)} {σ : L2.St} {H : Hp} {s : Shared} (I : Inv X pins σ H s) :
    ∃ φ, Inv X pins σ (upd H s.heap.objs.size (.ext φ)) { s with heap := s.heap.push { cls := .type "dict", data := .dict #[] } } ∧ DN X.prog X.w (upd H s.heap.objs.size (.ext φ)) s.heap.objs.size [] := by
  have g : (s.heap.push { cls := .type "dict", data := .dict #[] }).get? s.heap.objs.size = some { cls := .type "dict", data := .dict #[] } := Heap.get?_push_size _ rfl
  have raw : Raw X.prog X.w s.heap.objs.size [] 0 (s.heap.push { cls := .type "dict", data := .dict #[] }) := ⟨_, #[], g, ⟨rfl, rfl, rfl⟩, rfl, rfl⟩
  have hs : (s.heap.objs.size == sysModules) = false := (dk_empty (P := X.prog) (w := X.w) (H := H) s.heap I.big).2.1
  exact ⟨_, I.laid (t' := s.toks) (fun b o e => Heap.get?_push_of_some _ e) (Nat.le_refl _) (Raw.ok raw), [], 0, upd_same, .nil, List.nodup_nil, hs⟩
/-- behind a turn -/
def Behind (Y : Cx) (τ : L2.St) (tn : Nat → Heap → Prop) (fp : List Addr) (i : Nat) (N : Hp → Prop) (s : Shared) : Prop := ∃ H', Inv Y [] τ H' s ∧ tn (i + 1) s.heap ∧ (∀ b ∈ fp, H' b = none) ∧ N H'
abbrev Sure := fun (_ : Value) (_ : Shared) => False
theorem turn_run {Y : Cx} (hc : Y.calm = true) (hx : Y.xe = Sure) (hu : Y.A.units + 9 < cLine) {tg kx vx : Expr} {ifs : List Expr} {g : TG} {tt : TT} {tk tv : TE} (pg : PG Y tg g) (pt : PTs Y ifs tt) (pk : PE Y kx tk) (pv : PE Y vx tv) {J : It} {fp : List Addr} {it : Addr} {tn : Nat → Heap → Prop} (T : Turn Y.prog Y.w Y.K tg J fp it tn)
    {τ : L2.St} {vs : List Nat} {D : Addr} {i : Nat} {H : Hp} {s : Shared} {N : Hp → Prop} (ap : ∀ {τ' : L2.St} {H' : Hp} {s' : Shared}, Inv Y [] τ' H' s' → (∀ b ∈ fp, H' b = none) → ∀ b ∈ fp, FpOk Y [] H' b)
    (I : Inv Y [] τ H s) (st : tn i s.heap) (n0 : ∀ b ∈ fp, H b = none) (go : J.go i H) (h : TurnN Y.prog Y.w J g tt tk tv τ vs D i H N) :
    wpAny (model Y.prog Y.w) Y.A (pyNext (.ref it)) (fun r s1 => ∃ u, r = some u ∧ wpAny (model Y.prog Y.w) Y.A (letOwnedTupleGo tg (.ref it) u) (fun _ s2 => wpAny (model Y.prog Y.w) Y.A (assign tg Y.env u) (fun _ s3 =>
      wpAny (model Y.prog Y.w) Y.A (forIn ifs true fun c r => if r = true then do let ok ← isTrue c Y.env (eval c Y.env); pure (ForInStep.yield ok) else pure (ForInStep.yield r)) (fun ok s4 =>
        if ok = true then wpAny (model Y.prog Y.w) Y.A (eval kx Y.env) (fun kv s5 => wpAny (model Y.prog Y.w) Y.A (eval vx Y.env) (fun vv s6 => wpAny (model Y.prog Y.w) Y.A (dictSet D kv vv) (fun _ s7 => Behind Y τ tn fp i N s7) Sure s6) Sure s5) Sure s4
        else Behind Y τ tn fp i N s4) Sure s3) Sure s2) Sure s1) Sure s := by
  have sure : ∀ {α : Type} {t : Sem α} {Q : α → Shared → Prop} {s' : Shared}, wpAny (model Y.prog Y.w) Y.A t Q Y.xe s' → wpAny (model Y.prog Y.w) Y.A t Q Sure s' := fun h => by rw [hx] at h; exact h
  refine thnF (T.item Y rfl rfl rfl hc i [] s τ H Sure I (ap I n0) st go) fun r s1 ⟨u, hr, h1⟩ => ⟨u, hr, ?_⟩
  refine thnF h1 fun _ s2 ⟨x, H2, I2, r2, y2, st2, n2⟩ => ?_
  have obj2 := T.obj _ _ st2
  have J2 := I2.pinned (ap I2 n2) obj2
  refine thnF (sure (pg.run _ s2 _ H2 x u _ J2 r2 (h x H2 y2))) fun _ s3 ⟨σ3, H3, I3, hw, q3⟩ => ?_
  -- the turn is over: nothing of the walk has gone
  have over : ∀ {s' : Shared} {H' : Hp}, Inv Y ([] ++ pinsAt fp s2.heap) σ3 H' s' → N H' → Behind Y τ tn fp i N s' := by
    intro s' H' I' nx
    have kept : ∀ b ∈ fp, ∀ o, s2.heap.get? b = some o → s'.heap.get? b = some o ∧ H' b = none := by
      intro b hb o e
      obtain ⟨z1, z2, _⟩ := I'.pin (b, o) (List.mem_append_right _ (List.mem_append_right _ (mem_pinsAt hb e)))
      exact ⟨z1, z2⟩
    have len : τ.length = σ3.length := by rw [← hw, wipe_length]
    refine ⟨H', (I'.unpinned (pins := [])).weak len (fun j v e => ?_), T.keep _ _ _ st2 fun b hb o e => (kept b hb o e).1, fun b hb => ?_, nx⟩
    · rw [← hw] at e
      exact (wipe_some e).1
    · obtain ⟨o, e, _⟩ := obj2 b hb
      exact (kept b hb o e).2
  refine thnF (sure (pt.run _ s3 σ3 H3 _ I3 q3)) fun b s4 ⟨H4, I4, q4⟩ => ?_
  cases b with
  | false => exact over I4 q4
  | true =>
    refine thnF (sure (pk.run _ s4 σ3 H4 _ I4 q4)) fun u2 s5 ⟨y, H5, I5, r5, q5⟩ => ?_
    refine thnF (sure (pv.run _ s5 σ3 H5 _ I5 q5)) fun u3 s6 ⟨z, H6, I6, r6, q6⟩ => ?_
    exact thnF (brings_ok hu (E := Sure) I6 r5 r6 q6) fun _ s7 ⟨H7, I7, n7⟩ => over I7 n7
/-- {key: value for target in iter if ..} -/
theorem pe_dcN {kx vx tg iter : Expr} {ifs : List Expr} {scope : Scope} {own : List (Str × Nat)} {pos : Pos} {wi : TI} {g : TG} {tt : TT} {tk tv : TE} (hc : X.calm = true) (hu : X.A.units + 9 < cLine) (hN : X.N.Nodup) (hi : PI X tg iter wi) (ok : BlkOk X.N X.env.scope scope own)
    (hg : ∀ (s : Shared) (H : Hp) (C : Addr) (cl : List (Str × Addr)) (fp : List Addr), PG (X.blk s H scope (compEnvC scope cl C X.env) fp) tg g) (ht : ∀ (s : Shared) (H : Hp) (C : Addr) (cl : List (Str × Addr)) (fp : List Addr), PTs (X.blk s H scope (compEnvC scope cl C X.env) fp) ifs tt)
    (hk : ∀ (s : Shared) (H : Hp) (C : Addr) (cl : List (Str × Addr)) (fp : List Addr), PE (X.blk s H scope (compEnvC scope cl C X.env) fp) kx tk) (hv : ∀ (s : Shared) (H : Hp) (C : Addr) (cl : List (Str × Addr)) (fp : List Addr), PE (X.blk s H scope (compEnvC scope cl C X.env) fp) vx tv)
    (hs : ∀ x, foldedSetIterable iter X.env x = pure x := by intro _; rfl) : PE X (.DictComp kx vx [⟨tg, iter, ifs, 0⟩] scope pos) (tDcN X.prog X.w wi g tt tk tv (own.map (·.2))) := by
  refine ⟨fun pins s σ H Q I h => ?_⟩
  rw [arm_eval_DictComp]
  have closed : ∀ y ∈ scope.names, y.2 = .free → ∃ c, X.env.cells.lookup y.1 = some c := fun y hy e => I.ok.has _ (ok.free y hy e)
  refine wpAny_comprehension_free (use := none) rfl hs (closure_ok closed) ok.kind (fun y hy e => by rw [ok.uniq y hy, e]) ?_
  refine thn (hi.run pins s σ H _ I h) fun _ s1 hx => thn hx fun itv s2 ⟨it, fp, tn, J, H2, e, I2, T, st2, f2, q⟩ => ?_
  subst e
  refine wpAny_newObj_type (newEnv_comp ?_)
  obtain ⟨φ, I3, hD⟩ := fresh_nd I2
  have Dn : H2 s2.heap.objs.size = none := I2.hok.fresh (Nat.le_refl _)
  obtain ⟨W, ⟨m0, w0⟩, turn⟩ := q s2.heap.objs.size φ Dn hD
  have lt2 : ∀ b ∈ fp, b < s2.heap.objs.size := fun b hb => by
    obtain ⟨o, e, _⟩ := T.obj _ _ st2 b hb
    exact Heap.lt_size e
  generalize eD : s2.heap.objs.size = D at Dn hD w0 turn I3 lt2 ⊢
  generalize eH : upd H2 D (.ext φ) = H3 at hD w0 I3 ⊢
  have n3 : ∀ b ∈ fp, FpOk X pins H3 b := fun b hb => by
    refine ⟨?_, (f2 b hb).2⟩
    rw [← eH, upd_ne (Nat.ne_of_lt (lt2 b hb))]
    exact (f2 b hb).1
  generalize es : ({ s2 with heap := s2.heap.push { cls := .type "dict", data := .dict #[] } } : Shared) = s3 at I3
  have h3 : s3.heap = s2.heap.push { cls := .type "dict", data := .dict #[] } := by rw [← es]
  have st3 : tn 0 s3.heap := T.keep _ _ _ st2 fun b _ o e => by rw [h3]; exact Heap.get?_push_of_some _ e
  have I4 := block_start I3 ok hN fun b hb => ⟨n3 b hb, by rw [h3, Heap.size_push, eD]; exact Nat.lt_succ_of_lt (lt2 b hb)⟩
  have pg := hg s3 H3 s3.heap.objs.size (cellsFrom (s3.heap.objs.size + 1) scope.names (cloFrom X.env.cells scope.names [])) fp
  have pt := ht s3 H3 s3.heap.objs.size (cellsFrom (s3.heap.objs.size + 1) scope.names (cloFrom X.env.cells scope.names [])) fp
  have pk := hk s3 H3 s3.heap.objs.size (cellsFrom (s3.heap.objs.size + 1) scope.names (cloFrom X.env.cells scope.names [])) fp
  have pv := hv s3 H3 s3.heap.objs.size (cellsFrom (s3.heap.objs.size + 1) scope.names (cloFrom X.env.cells scope.names [])) fp
  show codeAny _ _ (.compStart (.DictComp kx vx [⟨tg, iter, ifs, 0⟩] scope pos) 0 (.ref it) (.ref D) (compEnvC scope (cellsFrom (s3.heap.objs.size + 1) scope.names (cloFrom X.env.cells scope.names [])) s3.heap.objs.size X.env)) (compPost (model X.prog X.w) X.A X.xe none (EP X pins σ Q) (.ref D) s3.heap.objs.size) { s3 with heap := pushCells (s3.heap.push { cls := .type "dict", data := .dict #[] }) scope.names }
  have loc : (compEnvC scope (cellsFrom (s3.heap.objs.size + 1) scope.names (cloFrom X.env.cells scope.names [])) s3.heap.objs.size X.env).locals = s3.heap.objs.size := rfl
  generalize compEnvC scope (cellsFrom (s3.heap.objs.size + 1) scope.names (cloFrom X.env.cells scope.names [])) s3.heap.objs.size X.env = B at loc I4 pg pt pk pv ⊢
  generalize e4 : ({ s3 with heap := pushCells (s3.heap.push { cls := .type "dict", data := .dict #[] }) scope.names } : Shared) = s4 at I4 ⊢
  have st4 : tn 0 s4.heap := T.keep _ _ _ st3 fun b _ o e => by rw [← e4]; exact pushCells_keeps _ _ _ _ (Heap.get?_push_of_some _ e)
  have ap : ∀ {τ' : L2.St} {H' : Hp} {s' : Shared}, Inv (X.blk s3 H3 scope B fp) [] τ' H' s' → (∀ b ∈ fp, H' b = none) → ∀ b ∈ fp, FpOk (X.blk s3 H3 scope B fp) [] H' b := by
    intro τ' H' s' I' z b hb
    obtain ⟨a1, a2⟩ := I'.ok.exf b hb
    exact ⟨z b hb, a1, I'.ok.exfs b hb, .inl hb, fun x c e => a2 x c e, fun p hp => by cases hp⟩
  have loop : codeAny (model X.prog X.w) X.A (.compLoop (.DictComp kx vx [⟨tg, iter, ifs, 0⟩] scope pos) 0 (.ref it) (.ref D) B) (compPost (model X.prog X.w) X.A X.xe none (EP X pins σ Q) (.ref D) s3.heap.objs.size) s4 := by
    refine compLoop_anyD (fun n s' => ∃ i H', Inv (X.blk s3 H3 scope B fp) [] (wipe σ (own.map (·.2))) H' s' ∧ tn i s'.heap ∧ (∀ b ∈ fp, H' b = none) ∧ W i n H') (fun n s5 hI => ?_) m0 ⟨0, H3, I4, st4, fun b hb => (n3 b hb).1, w0⟩
    obtain ⟨i, H5, I5, st5, n5, w5⟩ := hI
    rcases turn i n H5 w5 with ⟨stop, fin⟩ | ⟨go, N, hN2, step⟩
    · refine thnF (T.done (X.blk s3 H3 scope B fp) rfl rfl rfl hc i [] s5 _ H5 Sure I5 (ap I5 n5) st5 stop) fun r s6 ⟨hr, I6⟩ => ?_
      subst hr
      obtain ⟨m, hm, _⟩ := I6.loc
      have hm2 : s6.heap.Ns B.locals m := hm
      rw [loc] at hm2
      have free : H5 s3.heap.objs.size = none := by
        have z : H5 B.locals = none := I6.free
        rw [loc] at z
        exact z
      have I7 : Inv X pins σ H5 s6 := I3.call' (ch := fp) I6.os I6.base I6.hok I6.bare fun b hb => by
        obtain ⟨_, a1, a2, a3, a4, a5⟩ := n3 b hb
        exact ⟨a3, a1, a4, a5⟩
      obtain ⟨a0, a1, a2, a3, a4, a5⟩ := I3.fpOk (Nat.le_refl _) free
      exact ⟨m, hm2, fun h' sb => ⟨.ref D, H5, I7.turned (t' := s6.toks) (fun b o hb e => (sb.2 b hb).trans e) a0 a1 a3 a4 a5, rfl, fin⟩⟩
    · refine thnF (turn_run (Y := X.blk s3 H3 scope B fp) hc rfl hu pg pt pk pv T ap I5 st5 n5 go step) fun r s6 ⟨u, hr, h6⟩ => ?_
      subst hr
      have on : ∀ s', Behind (X.blk s3 H3 scope B fp) (wipe σ (own.map (·.2))) tn fp i N s' → ∃ m, m < n ∧ ∃ i H', Inv (X.blk s3 H3 scope B fp) [] (wipe σ (own.map (·.2))) H' s' ∧ tn i s'.heap ∧ (∀ b ∈ fp, H' b = none) ∧ W i m H' := fun s' ⟨H', b1, b2, b3, b4⟩ => by
        obtain ⟨m', lt, w'⟩ := hN2 H' b4
        exact ⟨m', lt, i + 1, H', b1, b2, b3, w'⟩
      refine thnF h6 fun _ s7 h7 => thnF h7 fun _ s8 h8 => thnF h8 fun ok2 s9 h9 => ?_
      cases ok2 with
      | false => exact on _ h9
      | true => exact thnF h9 fun _ s10 h10 => thnF h10 fun _ s11 h11 => thnF h11 fun _ s12 h12 => on _ h12
  exact codeAny_compStart_dict loop (T.self X.A 0 _ _ _ st4 loop)
end
end ND

set_option Elab.async false
set_option linter.all false
set_option maxRecDepth 100000
set_option maxHeartbeats 8000000
/-! k03: fixed tokens, counts, levels -/
namespace K2
open PySem PySem.Spec PyProof.Rows L2 EL LW
open Ln (L isWord isSign isTok)
open PySem.EV (ErrC ErrI)
abbrev sIsFixed : Stmt := topS 14
abbrev sIsCount : Stmt := topS 15
abbrev sIsLevel : Stmt := topS 16
theorem scIsFixed : FnScope ["value"] ["value"] (defScope sIsFixed) := ⟨rfl, rfl, rfl, by decide +kernel, rfl, by decide +kernel, by decide +kernel⟩
theorem scIsCount : FnScope ["value"] ["value"] (defScope sIsCount) := ⟨rfl, rfl, rfl, by decide +kernel, rfl, by decide +kernel, by decide +kernel⟩
theorem scIsLevel : FnScope ["value"] ["value"] (defScope sIsLevel) := ⟨rfl, rfl, rfl, by decide +kernel, rfl, by decide +kernel, by decide +kernel⟩
theorem boot_int : bootBuiltins (Str.ofString "int") = some (.type "int") := by decide +kernel
def isFixed (x : L) : Bool := isWord x || isSign x
section
variable {P : Program} {w : World} {K : PySem.W.Frag} {mg : Str → Option Value} {base : Heap} {C T I : Addr}
def spFix : Sp := fun vs H Q _ => ∃ x : Str, vs = [.str x] ∧ x.length ≤ 1000 ∧ ∀ H', Same H H' → Q (.bl (isFixed (cp x))) H'
theorem ok_fixed {f fW fS : Addr} {fd dW dS : FuncData} (F : Fun K "is_fixed" "is_fixed" sIsFixed f fd) (kW : PySem.W.keepIn K (.ref fW) = true) (GW : FnOk P w K mg base CX0 2 fW dW ["value"] (spTok K isWord)) (bW : Binds K dW ["value"] []) (gW : mg "is_word" = some (.ref fW))
    (kS : PySem.W.keepIn K (.ref fS) = true) (GS : FnOk P w K mg base CX0 1 fS dS ["value"] (spTok K isSign)) (bS : Binds K dS ["value"] []) (gS : mg "is_sign" = some (.ref fS)) : FnOk P w K mg base CX0 3 f fd ["value"] spFix := by
  refine F.ok scIsFixed (fun vs H Q E h => ?_) (fun cdv A outer s H vs Q E hr h => ?_)
  · obtain ⟨x, rfl, _⟩ := h
    rfl
  · obtain ⟨x, rfl, hz, q⟩ := h
    have r1 := hr.mono (by decide : 1 ≤ 2)
    refine ⟨_, pss_one (ps_ret (pe_or (pe_call GW hr (by rfl) gW kW bW .nil pass0 (pa_cons (pv 0) pa_nil)) (pe_one (pe_call GS r1 (by rfl) gS kS bS .nil pass0 (pa_cons (pv 0) pa_nil))))), ?_⟩
    have pl : ∀ H', Plain K H' (.str x) := fun H' => .inl ⟨x, rfl, by omega⟩
    refine ⟨.str x, rfl, .str x, rfl, pl _, fun H1 s1 => ⟨_, rfl, ite2 (fun c => ?_) (fun c => ?_)⟩⟩
    · have := q H1 s1
      unfold isFixed at this
      rw [show isWord (cp x) = true from c, Bool.true_or] at this
      exact this
    · refine ⟨.str x, rfl, .str x, rfl, pl _, fun H2 s2 => ?_⟩
      have := q H2 (s1.trans s2)
      unfold isFixed at this
      have c2 : ¬ (isWord (cp x) = true) := c
      rw [show isWord (cp x) = false from by simpa using c2, Bool.false_or] at this
      exact this
/-- what a count is asked of -/
def CntV (K : PySem.W.Frag) (H : Hp) (v : V) (b : Bool) : Prop := (∃ i, v = .int i ∧ b = decide (0 ≤ i)) ∨ (∃ c, v = .bl c ∧ b = false) ∨ ((∃ t, PySem.W.kitOne K t (.type "int") = some false ∧ ∀ H', Same H H' → TyX K H' v t) ∧ b = false)
def spCount (K : PySem.W.Frag) : Sp := fun vs H Q _ => ∃ (v : V) (b : Bool), vs = [v] ∧ CntV K H v b ∧ ∀ H', Same H H' → Q (.bl b) H'
theorem ok_count {f : Addr} {fd : FuncData} {k : Nat} (F : Fun K "is_count" "is_count" sIsCount f fd) (mis : mg "isinstance" = none) (mi : mg "int" = none) (mb : mg "bool" = none) : FnOk P w K mg base CX0 (k + 1) f fd ["value"] (spCount K) := by
  refine F.ok scIsCount (fun vs H Q E h => ?_) (fun cdv A outer s H vs Q E hr h => ?_)
  · obtain ⟨v, b, rfl, _⟩ := h
    rfl
  · obtain ⟨v, b, rfl, hv, q⟩ := h
    refine ⟨_, pss_one (ps_ret (pe_and (pe_callB call_isi (by rfl) mis boot_isi (pa_cons (pv 0) (pa_cons (pe_bltn (v := .ty "int") (by rfl) mi boot_int rfl) pa_nil)))
      (pe_and (pe_not (pe_callB call_isi (by rfl) mis boot_isi (pa_cons (pv 0) (pa_cons (pe_bltn (v := .ty "bool") (by rfl) mb boot_bool rfl) pa_nil)))) (pe_one (pe_cmpR op_ge (pv 0) pe_int (nomark _)))))), ?_⟩
    rcases hv with ⟨i, rfl, rfl⟩ | ⟨c, rfl, rfl⟩ | ⟨⟨t, k0, ty⟩, rfl⟩
    · refine ⟨.int i, rfl, _, _, _, _, true, rfl, ClsV.ty _, (Atom.int i).ty, kit_ty (by decide +kernel), true, rfl, iteT ?_⟩
      refine ⟨.int i, rfl, _, _, _, _, false, rfl, ClsV.ty _, (Atom.int i).ty, kit_ty (by decide +kernel), false, rfl, _, rfl, iteT ?_⟩
      exact ⟨.int i, rfl, i, 0, rfl, rfl, q H (Same.refl H)⟩
    · refine ⟨.bl c, rfl, _, _, _, _, true, rfl, ClsV.ty _, (Atom.bl c).ty, kit_ty (by decide +kernel), true, rfl, iteT ?_⟩
      exact ⟨.bl c, rfl, _, _, _, _, true, rfl, ClsV.ty _, (Atom.bl c).ty, kit_ty (by decide +kernel), true, rfl, _, rfl, iteF (q H (Same.refl H))⟩
    · exact ⟨v, rfl, _, _, t, _, false, rfl, ClsV.ty _, ty _ (Same.refl _), k0, false, rfl, iteF (q H (Same.refl H))⟩
def spLevel : Sp := fun vs H Q _ => ∃ i : Int, vs = [.int i] ∧ 0 ≤ i ∧ i ≤ 9 ∧ ∀ H', Same H H' → Q (.bl true) H'
theorem ok_level {f fC : Addr} {fd dC : FuncData} {t : Tok} (F : Fun K "is_level" "is_level" sIsLevel f fd) (kC : PySem.W.keepIn K (.ref fC) = true) (GC : FnOk P w K mg base CX0 1 fC dC ["value"] (spCount K)) (bC : Binds K dC ["value"] []) (gC : mg "is_count" = some (.ref fC)) (mG : mg "GREATEST_LEVEL" = some (.int 9 t)) : FnOk P w K mg base CX0 2 f fd ["value"] spLevel := by
  refine F.ok scIsLevel (fun vs H Q E h => ?_) (fun cdv A outer s H vs Q E hr h => ?_)
  · obtain ⟨x, rfl, _⟩ := h
    rfl
  · obtain ⟨i, rfl, h0, h9, q⟩ := h
    refine ⟨_, pss_one (ps_ret (pe_and (pe_call GC hr (by rfl) gC kC bC .nil pass0 (pa_cons (pv 0) pa_nil)) (pe_one (pe_cmpR op_le (pv 0) (pe_glob (v := .int 9) (by rfl) mG ⟨_, rfl⟩) (nomark _))))), ?_⟩
    refine ⟨.int i, rfl, .int i, true, rfl, .inl ⟨i, rfl, (decide_eq_true h0).symm⟩, fun H1 s1 => ⟨true, rfl, iteT ?_⟩⟩
    refine ⟨.int i, rfl, i, 9, rfl, rfl, ?_⟩
    show Q (.bl (decide (i ≤ 9))) H1
    rw [decide_eq_true h9]
    exact q H1 s1
end
end K2

set_option Elab.async false
set_option linter.all false
set_option maxRecDepth 100000
set_option maxHeartbeats 8000000
/-! k03: patterns -/
namespace K2
open PySem PySem.Spec PyProof.Rows L2 EL LW ND
open Ln (L isWord isSign isTok)
open PySem.EV (ErrC ErrI)
abbrev sIsPat : Stmt := topS 21
theorem scIsPat : FnScope ["value", "many", "item", "at"] ["value"] (defScope sIsPat) := ⟨rfl, rfl, rfl, by decide +kernel, rfl, by decide +kernel, by decide +kernel⟩
theorem boot_any : bootBuiltins (Str.ofString "any") = some (.builtin "any") := by decide +kernel
theorem cutV_all {xs : List V} {lo hi : Option Int} (h : HT.sIx xs.length 0 lo = 0 ∧ HT.sIx xs.length xs.length hi = xs.length) : cutV xs lo hi = xs := by
  unfold cutV
  rw [h.1, h.2]
  simp
theorem slT {K : PySem.W.Frag} {H : Hp} {a : Addr} {xs : List V} {lo hi : Option Int} {Q : VK} (h : SqT K H a xs) (q : ∀ b H', Same H H' → SqT K H' b (cutV xs lo hi) → Q (.ref b) H') : rSlA K (.ref a) lo hi H Q :=
  ⟨a, xs, rfl, h, fun c => q a H (Same.refl _) (by rw [cutV_all c]; exact h), fun _ p np => q p _ (same_upd np) (.of upd_same)⟩
theorem SqT.same {K : PySem.W.Frag} {H H' : Hp} {a : Addr} {xs : List V} (s : Same H H') : SqT K H a xs → SqT K H' a xs := fun h => by
  rcases h with (h | ⟨o, h⟩) | h
  · exact .inl (.inl (s _ _ h))
  · exact .inl (.inr ⟨o, s _ _ h⟩)
  · exact .inr h
theorem SqL.same {K : PySem.W.Frag} {H H' : Hp} {a : Addr} {xs : List V} (s : Same H H') : SqL K H a xs → SqL K H' a xs := fun h => by
  rcases h with (h | ⟨o, h⟩) | h
  · exact .inl (.inl (s _ _ h))
  · exact .inl (.inr ⟨o, s _ _ h⟩)
  · exact .inr h
abbrev hole0 : Str := Str.ofString "_"
theorem lc_rsame {vs : List Nat} {σ : L2.St} {j : Nat} {H1 : Hp} {D : Addr} {n : Nat} {te : TE} {Qd : Hp → Prop} (nD : H1 D = none) (ys : List V) (hl : ys.length = n) (hz : n ≤ sizeLine)
    (hσ : ∀ i : Nat, wipe ((wipe σ vs).set j (some (.int (0 + (i : Int))))) vs = wipe σ vs)
    (hs : ∀ (i : Nat) H, i < n → Same H1 H → Gives te ((wipe σ vs).set j (some (.int (0 + (i : Int))))) H (fun y => ys[i]? = some y))
    (hd : ∀ H, Same H1 H → H D = some (.lst ys) → Qd H) :
    ∃ W : Nat → Nat → Hp → Prop, (∃ m, W 0 m (upd H1 D (.lst []))) ∧ ∀ i m H, W i m H →
      ((Itr 0 n).stop i H ∧ Qd H) ∨ ((Itr 0 n).go i H ∧ ∃ Nx : Hp → Prop, (∀ H', Nx H' → ∃ m', m' < m ∧ W (i + 1) m' H') ∧ ∀ x H', (Itr 0 n).yld i H x H' → gName j x (wipe σ vs) H' fun σ2 H2 => wipe σ2 vs = wipe σ vs ∧ tYes σ2 H2 fun b H3 =>
        if b = true then te σ2 H3 fun y H4 => ∃ acc, H4 D = some (.lst acc) ∧ acc.length < sizeLine ∧ Nx (upd H4 D (.lst (acc ++ [y]))) else Nx H3) := by
  refine lc_range (lo := 0) (n := n) (fun i H => Same H1 H ∧ H D = some (.lst (ys.take i))) ⟨same_upd nD, by rw [upd_same]; rfl⟩ ?_ fun H h => hd H h.1 (by rw [h.2, List.take_of_length_le (by omega)])
  rintro i H hi ⟨s1, eD⟩
  refine ⟨hσ i, lc_turn ?_⟩
  refine hs i H hi s1 _ fun v H4 s4 hv => ⟨_, s4 _ _ eD, ?_, fun b o hb => ?_, ?_⟩
  · rw [List.length_take]
    omega
  · rw [upd_ne (ne_of_none hb nD)]
    exact s4 _ _ (s1 _ _ hb)
  · rw [upd_same]
    have h1 : i < ys.length := by omega
    have e : ys[i] = v := by
      rw [List.getElem?_eq_getElem h1] at hv
      exact Option.some.inj hv
    rw [List.take_succ_eq_append_getElem h1, e]
theorem cut_two (p : List Str) (i : Nat) (h : i ≤ p.length) : cutV (p.map V.str) (some (0 + (i : Int))) (some (0 + (i : Int) + 2)) = ((p.drop i).take 2).map V.str := by
  have e1 : (0 + (i : Int)) = ((i : Nat) : Int) := by omega
  have e2 : (((i : Nat) : Int) + 2) = ((i + 2 : Nat) : Int) := by omega
  rw [e1, e2]
  unfold cutV
  rw [HT.sIx_nat, HT.sIx_nat, List.length_map, Nat.min_eq_left h]
  rw [← List.map_drop, ← List.map_take]
  congr 1
  rcases Nat.le_total (i + 2) p.length with c | c
  · rw [Nat.min_eq_left c]
    congr 1
    omega
  · rw [Nat.min_eq_right c, List.take_of_length_le (by rw [List.length_drop]; omega), List.take_of_length_le (by rw [List.length_drop]; omega)]
theorem strs_dp {K : PySem.W.Frag} {H : Hp} : ∀ p : List Str, DpAll K H (p.map V.str) (p.map PyData.str)
  | [] => .nil
  | x :: p => .cons (.str x) (strs_dp p)
theorem strs_eqv : ∀ p q : List Str, PyData.eqvAll (p.map PyData.str) (q.map PyData.str) = decide (p = q)
  | [], [] => rfl
  | [], _ :: _ => rfl
  | _ :: _, [] => rfl
  | t :: ts, u :: us => by
    show (PyData.eqv (.str t) (.str u) && PyData.eqvAll (ts.map PyData.str) (us.map PyData.str)) = _
    rw [strs_eqv ts us]
    have : PyData.eqv (.str t) (.str u) = decide (t = u) := by
      show (t == u) = _
      rw [Bool.eq_iff_iff, beq_iff_eq, decide_eq_true_iff]
    rw [this, Bool.eq_iff_iff]
    simp
/-- texts of plain signs -/
def AscS (x : Str) : Prop := ∀ c ∈ cp x, c < 128
theorem strs_lay : ∀ p : List Str, (∀ x ∈ p, AscS x) → PyData.canLayAll0 (p.map PyData.str) = true
  | [], _ => rfl
  | t :: ts, h => by
    show (PyData.canLay0 (.str t) && PyData.canLayAll0 (ts.map PyData.str)) = true
    rw [strs_lay ts fun u hu => h u (List.mem_cons_of_mem _ hu), Bool.and_true]
    show (t.cps.all fun c => decide (c < 0x110000)) = true
    rw [← Array.all_toList, List.all_eq_true]
    intro c hc
    have := h t List.mem_cons_self c hc
    exact decide_eq_true (by omega)
theorem strs_depth : ∀ p : List Str, PyData.depthAll (p.map PyData.str) = 0
  | [] => rfl
  | t :: ts => by
    show max (PyData.depth (.str t)) (PyData.depthAll (ts.map PyData.str)) = 0
    rw [strs_depth ts]
    rfl
theorem strs_shaped (p : List Str) (h : ∀ x ∈ p, AscS x) : SeqAt.shaped (.tuple (p.map PyData.str)) = true := by
  unfold SeqAt.shaped
  have h1 : PyData.canLay0 (.tuple (p.map PyData.str)) = true := strs_lay p h
  have h2 : PyData.depth (.tuple (p.map PyData.str)) = 1 := by
    show PyData.depthAll (p.map PyData.str) + 1 = 1
    rw [strs_depth]
  rw [h1, h2]
  rfl
theorem fixed_asc {x : Str} (h : x = hole0 ∨ isFixed (cp x) = true) : AscS x := by
  intro c hc
  rcases h with rfl | h
  · revert c
    decide +kernel
  · unfold isFixed at h
    rw [Bool.or_eq_true] at h
    rcases h with h | h
    · unfold isWord Ln.isRun at h
      rw [Bool.and_eq_true] at h
      have := List.all_eq_true.mp h.2 c hc
      unfold Ln.isLet at this
      simp at this
      omega
    · unfold isSign at h
      simp at h
      exact (show ∀ c ∈ Ln.signs, c < 128 by decide) c (h.2 c hc)
/-- patterns that are right -/
abbrev hole : Str := Str.ofString "_"
structure PatOk (p : List Str) : Prop where
  len1 : 1 ≤ p.length
  len7 : p.length ≤ 7
  item : ∀ x ∈ p, x.length ≤ 8 ∧ (x = hole ∨ isFixed (cp x) = true)
  few : p.countP (· == hole) ≤ 3
  some_ : p.countP (· == hole) ≠ p.length
  apart : ∀ i, p[i]? = some hole → p[i + 1]? ≠ some hole
section
variable {P : Program} {w : World} {K : PySem.W.Frag} {mg : Str → Option Value} {base : Heap} {C T I : Addr}
def spPat (K : PySem.W.Frag) : Sp := fun vs H Q _ => ∃ (a : Addr) (p : List Str), vs = [.ref a] ∧ ET H a (p.map V.str) ∧ PatOk p ∧ ∀ H', Same H H' → Q (.bl true) H'
theorem ok_pat {f fF : Addr} {fd dF : FuncData} {t1 t2 t3 : Tok} (F : Fun K "is_pattern" "is_pattern" sIsPat f fd) (kF : PySem.W.keepIn K (.ref fF) = true) (GF : FnOk P w K mg base CX0 3 fF dF ["value"] spFix) (bF : Binds K dF ["value"] []) (gF : mg "is_fixed" = some (.ref fF))
    (mH : mg "HOLE" = some (.str hole t1)) (mI : mg "MOST_ITEMS" = some (.int 7 t2)) (mO : mg "MOST_HOLES" = some (.int 3 t3)) (mis : mg "isinstance" = none) (mt : mg "tuple" = none) (ml : mg "len" = none) (mal : mg "all" = none) (man : mg "any" = none) (mr : mg "range" = none) :
    FnOk P w K mg base CX0 4 f fd ["value"] (spPat K) := by
  refine F.ok scIsPat (fun vs H Q E h => ?_) (fun cdv A outer s H vs Q E hr h => ?_)
  · obtain ⟨a, p, rfl, _⟩ := h
    rfl
  · obtain ⟨a, p, rfl, hS, hp, q⟩ := h
    have nd := scIsPat.nd
    have hu := hr.units
    refine ⟨_, pss_cons (ps_if (PW.pt (pw_or (pt_not (pt_val (pe_callB call_isi (by rfl) mis boot_isi (pa_cons (pv 0) (pa_cons (pe_bltn (v := .ty "tuple") (by rfl) mt boot_tuple rfl) pa_nil)))))
        (pw_or1 (pt_not (pt_chain op_le op_le pe_int (pe_callB call_len_seq (by rfl) ml PySem.boot_len (pa_cons (pv 0) pa_nil)) (pe_glob (v := .int 7) (by rfl) mI ⟨_, rfl⟩)))))) (pss_one (ps_ret pe_bl)) pss_nil)
      (pss_cons (ps_if (pt_not (pt_val (pe_callB (cr_all rfl) (by rfl) mal boot_all (pa_cons (pe_lc (own := [("item", 2)]) (g := gName 2) (tt := tYes) rfl nd (pi_tup (pv 0)) (blkOk_by (own := [("item", 2)]) (N := ["value", "many", "item", "at"]) (sc := defScope sIsPat) (by decide +kernel)) (fun _ _ _ _ _ => pg_name (i := 2) nd rfl (Or.inl rfl)) (fun _ _ _ _ _ => pts_nil)
        (fun _ _ _ _ _ => pe_or (pe_cmpR op_eq (pv 2) (pe_glob (v := .str hole) (by rfl) mH ⟨_, rfl⟩) (nomark _)) (pe_one (pe_call GF hr (by rfl) gF kF bF .nil pass0 (pa_cons (pv 2) pa_nil))))) pa_nil)))) (pss_one (ps_ret pe_bl)) pss_nil)
      (pss_cons (ps_set (i := 1) nd rfl (.inl rfl) (pe_tm PySem.F.slot_tuple_count PySem.F.type_tuple_count mt_countT (pv 0) (pa_cons (pe_glob (v := .str hole) (by rfl) mH ⟨_, rfl⟩) pa_nil)))
      (pss_cons (ps_if (PW.pt (pw_or (pt_cmpR op_gt (pv 1) (pe_glob (v := .int 3) (by rfl) mO ⟨_, rfl⟩) (nomark _)) (pw_or1 (pt_cmpR op_eq (pv 1) (pe_callB call_len_seq (by rfl) ml PySem.boot_len (pa_cons (pv 0) pa_nil)) (nomark _))))) (pss_one (ps_ret pe_bl)) pss_nil)
      (pss_one (ps_ret (pe_not (pe_callB (cr_any rfl) (by rfl) man boot_any (pa_cons (pe_lc (own := [("at", 3)]) (g := gName 3) (tt := tYes) rfl nd (pi_range1 rfl mr (pa_cons (pe_callB call_len_seq (by rfl) ml PySem.boot_len (pa_cons (pv 0) pa_nil)) pa_nil)) (blkOk_by (own := [("at", 3)]) (N := ["value", "many", "item", "at"]) (sc := defScope sIsPat) (by decide +kernel)) (fun _ _ _ _ _ => pg_name (i := 3) nd rfl (Or.inl rfl)) (fun _ _ _ _ _ => pts_nil)
        (fun _ _ _ _ _ => pe_cmpR (r := rEqD K) (op_eqD hu) (pe_slice (r := rSlA K) sl_tupA (pv 0) (po_some (pv 3)) (po_some (pe_op op_add (pv 3) pe_int))) (pe_tup (pa_cons (pe_glob (v := .str hole) (by rfl) mH ⟨_, rfl⟩) (pa_cons (pe_glob (v := .str hole) (by rfl) mH ⟨_, rfl⟩) pa_nil))) (nomark _))) pa_nil)))))))), ?_⟩
    have hl : (p.map V.str).length = p.length := List.length_map ..
    have l1 := hp.len1
    have l7 := hp.len7
    refine ⟨.ref a, rfl, _, _, _, _, true, rfl, ClsV.ty _, hS.ty, kit_ty (by decide +kernel), true, rfl, iteF ?_⟩
    refine ⟨.ref a, rfl, a, _, rfl, .inr hS.sq, _, _, rfl, rfl, true, by rw [hl]; exact congrArg V.bl (decide_eq_true (by omega)), iteT ?_⟩
    refine ⟨_, _, rfl, rfl, true, by rw [hl]; exact congrArg V.bl (decide_eq_true (by omega)), iteF ?_⟩
    refine ⟨.ref a, rfl, a, rfl, ⟨_, hS.sq⟩, fun D nD => lc_same walk_tup nD (p.map fun _ => V.bl true) (by rw [List.length_map, hl]) (by rw [hl]; exact sz _ (by omega)) (fun H1 s1 => (hS.same s1).sq) ?_ fun H1 s1 eD => ?_⟩
    · rintro i y H1 H1' hi s1 ⟨rfl, hx⟩
      refine ⟨Same.refl _, rfl, fun Q' q' => ?_⟩
      rw [List.getElem?_map] at hx
      obtain ⟨z, hz, rfl⟩ := Option.map_eq_some_iff.mp hx
      obtain ⟨hzl, hz2⟩ := hp.item z (List.mem_of_getElem? hz)
      have yes : (p.map fun _ => V.bl true)[i]? = some (V.bl true) := by rw [List.getElem?_map, hz]; rfl
      refine ⟨.str z, rfl, rfl, _, rfl, ?_⟩
      rw [dec_str]
      by_cases c : cp z = cp hole
      · rw [decide_eq_true c]
        exact iteT (q' _ _ (Same.refl _) yes)
      · rw [decide_eq_false c]
        refine iteF ⟨.str z, rfl, z, rfl, by omega, fun H2 s2 => ?_⟩
        rcases hz2 with rfl | hz2
        · exact absurd rfl c
        · rw [hz2]
          exact q' _ _ s2 yes
    have eB : (p.map fun _ => V.bl true) = (p.map fun _ => true).map V.bl := by rw [List.map_map]; rfl
    refine ⟨D, p.map fun _ => true, rfl, SqL.of (eB ▸ eD), true, ?_, iteF ?_⟩
    · refine congrArg V.bl ?_
      rw [List.all_eq_true]
      intro b hb
      obtain ⟨_, _, rfl⟩ := List.mem_map.mp hb
      rfl
    have e1 := hS.same s1
    refine ⟨.ref a, rfl, ⟨a, _, rfl, e1⟩, ?_⟩
    refine ⟨a, p, hole, rfl, rfl, e1.sq, ?_⟩
    have few := hp.few
    have som := hp.some_
    refine ⟨_, rfl, _, _, rfl, rfl, false, congrArg V.bl (decide_eq_false (by omega)), iteF ?_⟩
    refine ⟨_, rfl, .ref a, rfl, a, _, rfl, .inr e1.sq, rfl, false, ?_, iteF ?_⟩
    · rw [hl]
      refine congrArg V.bl (decide_eq_false fun z => ?_)
      injection z with z
      omega
    refine ⟨.ref a, rfl, a, _, rfl, .inr e1.sq, _, rfl, by rw [hl]; omega, by rw [hl]; omega, fun D2 nD2 => ?_⟩
    refine lc_rsame nD2 (p.map fun _ => V.bl false) (by rw [List.length_map, List.length_map]; rfl) (by rw [hl]; exact sz _ (by show p.length ≤ 100000; omega)) (fun _ => rfl) ?_ fun H2 s2 eD2 => ?_
    · intro i H3 hi s3 Q' q'
      have hi2 : i < p.length := by rw [hl] at hi; exact hi
      have no : (p.map fun _ => V.bl false)[i]? = some (V.bl false) := by rw [List.getElem?_map, List.getElem?_eq_getElem hi2]; rfl
      refine ⟨.ref a, rfl, _, rfl, _, rfl, ?_⟩
      refine ⟨_, rfl, _, _, rfl, rfl, _, rfl, ?_⟩
      refine slT (e1.same s3).sq fun b H4 s4 hb => ⟨sz 2 (by decide), fun t nt => ?_⟩
      rw [cut_two p i (by omega)] at hb
      have st := same_upd (o := .tup [V.str hole, .str hole]) nt
      have asc : ∀ x ∈ p, AscS x := fun x hx => fixed_asc (hp.item x hx).2
      refine ⟨.tuple (((p.drop i).take 2).map PyData.str), .tuple ([hole, hole].map PyData.str), .tup (SqT.same st hb) (strs_dp _), .tup (SqT.of upd_same) (strs_dp [hole, hole]), strs_shaped _ fun x hx => asc x (List.mem_of_mem_drop (List.mem_of_mem_take hx)), by decide +kernel, ?_⟩
      rw [show PyData.eqv (.tuple (((p.drop i).take 2).map PyData.str)) (.tuple ([hole, hole].map PyData.str)) = false from by
        show PyData.eqvAll _ _ = false
        rw [strs_eqv]
        refine decide_eq_false fun z => ?_
        have z0 : p[i]? = some hole := by
          have : ((p.drop i).take 2)[0]? = some hole := by rw [z]; rfl
          rw [List.getElem?_take_of_lt (by decide), List.getElem?_drop] at this
          exact this
        have z1 : p[i + 1]? = some hole := by
          have : ((p.drop i).take 2)[1]? = some hole := by rw [z]; rfl
          rw [List.getElem?_take_of_lt (by decide), List.getElem?_drop] at this
          exact this
        exact hp.apart i z0 z1]
      exact q' _ _ (s4.trans st) no
    · have eB2 : (p.map fun _ => V.bl false) = (p.map fun _ => false).map V.bl := by rw [List.map_map]; rfl
      refine ⟨D2, p.map fun _ => false, rfl, SqL.of (eB2 ▸ eD2), _, rfl, ?_⟩
      have : (p.map fun _ => false).any id = false := by
        rw [List.any_eq_false]
        intro b hb
        obtain ⟨_, _, rfl⟩ := List.mem_map.mp hb
        simp
      rw [this]
      exact q _ (s1.trans s2)
end
end K2

set_option Elab.async false
set_option linter.all false
set_option maxRecDepth 100000
set_option maxHeartbeats 8000000
/-! k03: forms -/
namespace K2
open PySem PySem.Spec PyProof.Rows L2 EL LW ND
open Ln (L isWord isSign isTok)
open PySem.EV (ErrC ErrI)
abbrev sWell : Stmt := topS 22
abbrev sIsTail : Stmt := topS 23
abbrev sOwnKey : Stmt := topS 24
abbrev sHoleKey : Stmt := topS 25
theorem scWell : FnScope ["value", "levels", "level"] ["value"] (defScope sWell) := ⟨rfl, rfl, rfl, by decide +kernel, rfl, by decide +kernel, by decide +kernel⟩
theorem scIsTail : FnScope ["place"] ["place"] (defScope sIsTail) := ⟨rfl, rfl, rfl, by decide +kernel, rfl, by decide +kernel, by decide +kernel⟩
theorem scOwnKey : FnScope ["place"] ["place"] (defScope sOwnKey) := ⟨rfl, rfl, rfl, by decide +kernel, rfl, by decide +kernel, by decide +kernel⟩
theorem scHoleKey : FnScope ["pattern", "at"] ["pattern", "at"] (defScope sHoleKey) := ⟨rfl, rfl, rfl, by decide +kernel, rfl, by decide +kernel, by decide +kernel⟩
/-- forms -/
structure Fm where
  pat : List Str
  lev : Int
  levs : List Int
structure FmOk (f : Fm) : Prop where
  pat : PatOk f.pat
  lev : 0 ≤ f.lev ∧ f.lev ≤ 9
  len : f.levs.length = f.pat.countP (· == hole)
  levs : ∀ i ∈ f.levs, 0 ≤ i ∧ i ≤ 9
/-- the object of a form -/
def FormAt (H : Hp) (v : V) (f : Fm) : Prop := ∃ a ap al, v = .ref a ∧ ET H a [.ref ap, .int f.lev, .ref al] ∧ ET H ap (f.pat.map V.str) ∧ ET H al (f.levs.map V.int)
theorem FormAt.same {H H' : Hp} (s : Same H H') {v : V} {f : Fm} : FormAt H v f → FormAt H' v f := fun ⟨a, b, c, e, h1, h2, h3⟩ => ⟨a, b, c, e, h1.same s, h2.same s, h3.same s⟩
section
variable {P : Program} {w : World} {K : PySem.W.Frag} {mg : Str → Option Value} {base : Heap} {C T I : Addr}
def spWell : Sp := fun vs H Q _ => ∃ v f, vs = [v] ∧ FormAt H v f ∧ FmOk f ∧ ∀ H', Same H H' → Q (.bl true) H'
theorem ok_well {f fP fL : Addr} {fd dP dL : FuncData} {t1 : Tok} (F : Fun K "is_well_formed" "is_well_formed" sWell f fd) (kP : PySem.W.keepIn K (.ref fP) = true) (GP : FnOk P w K mg base CX0 4 fP dP ["value"] (spPat K)) (bP : Binds K dP ["value"] []) (gP : mg "is_pattern" = some (.ref fP))
    (kL : PySem.W.keepIn K (.ref fL) = true) (GL : FnOk P w K mg base CX0 2 fL dL ["value"] spLevel) (bL : Binds K dL ["value"] []) (gL : mg "is_level" = some (.ref fL))
    (mH : mg "HOLE" = some (.str hole t1)) (mis : mg "isinstance" = none) (mt : mg "tuple" = none) (ml : mg "len" = none) (mal : mg "all" = none) : FnOk P w K mg base CX0 5 f fd ["value"] spWell := by
  refine F.ok scWell (fun vs H Q E h => ?_) (fun cdv A outer s H vs Q E hr h => ?_)
  · obtain ⟨v, p, rfl, _⟩ := h
    rfl
  · obtain ⟨v, fm, rfl, ⟨a, ap, al, rfl, h1, h2, h3⟩, hf, q⟩ := h
    have nd := scWell.nd
    have r2 := hr.mono (by decide : 2 ≤ 4)
    refine ⟨_, pss_cons (ps_if (PW.pt (pw_or (pt_not (pt_val (pe_callB call_isi (by rfl) mis boot_isi (pa_cons (pv 0) (pa_cons (pe_bltn (v := .ty "tuple") (by rfl) mt boot_tuple rfl) pa_nil)))))
        (pw_or (pt_cmpR op_ne (pe_callB call_len_seq (by rfl) ml PySem.boot_len (pa_cons (pv 0) pa_nil)) pe_int (nomark _)) (pw_or1 (pt_not (pt_val (pe_call GP hr (by rfl) gP kP bP .nil pass0 (pa_cons (pe_ix ix_tup (pv 0) pe_int (fun _ _ => rfl)) pa_nil)))))))) (pss_one (ps_ret pe_bl)) pss_nil)
      (pss_cons (ps_set (i := 1) nd rfl (.inl rfl) (pe_ix ix_tup (pv 0) pe_int (fun _ _ => rfl)))
      (pss_cons (ps_if (PW.pt (pw_or (pt_not (pt_val (pe_callB call_isi (by rfl) mis boot_isi (pa_cons (pv 1) (pa_cons (pe_bltn (v := .ty "tuple") (by rfl) mt boot_tuple rfl) pa_nil)))))
        (pw_or1 (pt_cmpR op_ne (pe_callB call_len_seq (by rfl) ml PySem.boot_len (pa_cons (pv 1) pa_nil)) (pe_tm PySem.F.slot_tuple_count PySem.F.type_tuple_count mt_countT (pe_ix ix_tup (pv 0) pe_int (fun _ _ => rfl)) (pa_cons (pe_glob (v := .str hole) (by rfl) mH ⟨_, rfl⟩) pa_nil)) (nomark _))))) (pss_one (ps_ret pe_bl)) pss_nil)
      (pss_one (ps_ret (pe_and (pe_call GL r2 (by rfl) gL kL bL .nil pass0 (pa_cons (pe_ix ix_tup (pv 0) pe_int (fun _ _ => rfl)) pa_nil)) (pe_one (pe_callB (cr_all rfl) (by rfl) mal boot_all (pa_cons (pe_lc (own := [("level", 2)]) (g := gName 2) (tt := tYes) rfl nd (pi_tup (pv 1)) (blkOk_by (own := [("level", 2)]) (N := ["value", "levels", "level"]) (sc := defScope sWell) (by decide +kernel)) (fun _ _ _ _ _ => pg_name (i := 2) nd rfl (Or.inl rfl)) (fun _ _ _ _ _ => pts_nil)
        (fun _ _ _ _ _ => pe_call GL r2 (by rfl) gL kL bL .nil pass0 (pa_cons (pv 2) pa_nil))) pa_nil)))))))), ?_⟩
    have i0 : atI [V.ref ap, .int fm.lev, .ref al] 0 = some (.ref ap) := rfl
    have i1 : atI [V.ref ap, .int fm.lev, .ref al] 1 = some (.int fm.lev) := rfl
    have i2 : atI [V.ref ap, .int fm.lev, .ref al] 2 = some (.ref al) := rfl
    refine ⟨.ref a, rfl, _, _, _, _, true, rfl, ClsV.ty _, h1.ty, kit_ty (by decide +kernel), true, rfl, iteF ?_⟩
    refine ⟨.ref a, rfl, a, _, rfl, .inr h1.sq, rfl, false, rfl, iteF ?_⟩
    refine ⟨.ref a, rfl, a, _, _, _, rfl, rfl, h1.sq, i0, ?_⟩
    refine ⟨ap, fm.pat, rfl, h2, hf.pat, fun H1 s1 => ⟨true, rfl, iteF ?_⟩⟩
    have k1 := h1.same s1
    have k2 := h2.same s1
    have k3 := h3.same s1
    have hl : (fm.levs.map V.int).length = fm.levs.length := List.length_map ..
    refine ⟨.ref a, rfl, a, _, _, _, rfl, rfl, k1.sq, i2, ?_⟩
    refine ⟨.ref al, rfl, _, _, _, _, true, rfl, ClsV.ty _, k3.ty, kit_ty (by decide +kernel), true, rfl, iteF ?_⟩
    refine ⟨.ref al, rfl, al, _, rfl, .inr k3.sq, ?_⟩
    refine ⟨.ref a, rfl, a, _, _, _, rfl, rfl, k1.sq, i0, ⟨ap, _, rfl, k2⟩, ap, fm.pat, hole, rfl, rfl, k2.sq, rfl, false, ?_, iteF ?_⟩
    · rw [hl, hf.len]
      simp
    refine ⟨.ref a, rfl, a, _, _, _, rfl, rfl, k1.sq, i1, fm.lev, rfl, hf.lev.1, hf.lev.2, fun H2 s2 => ⟨true, rfl, iteT ?_⟩⟩
    have m3 := k3.same s2
    have few := hf.pat.few
    refine ⟨.ref al, rfl, al, rfl, ⟨_, m3.sq⟩, fun D nD => lc_same walk_tup nD (fm.levs.map fun _ => V.bl true) (by rw [List.length_map, hl]) (by rw [hl, hf.len]; exact sz _ (by omega)) (fun H3 s3 => (m3.same s3).sq) ?_ fun H3 s3 eD => ?_⟩
    · rintro i y H3 H3' hi s3 ⟨rfl, hx⟩
      refine ⟨Same.refl _, rfl, fun Q' q' => ?_⟩
      rw [List.getElem?_map] at hx
      obtain ⟨z, hz, rfl⟩ := Option.map_eq_some_iff.mp hx
      obtain ⟨l0, l9⟩ := hf.levs z (List.mem_of_getElem? hz)
      exact ⟨.int z, rfl, z, rfl, l0, l9, fun H4 s4 => q' _ _ s4 (by rw [List.getElem?_map, hz]; rfl)⟩
    have eB : (fm.levs.map fun _ => V.bl true) = (fm.levs.map fun _ => true).map V.bl := by rw [List.map_map]; rfl
    refine ⟨D, fm.levs.map fun _ => true, rfl, SqL.of (eB ▸ eD), ?_⟩
    rw [show (fm.levs.map fun _ => true).all id = true from by
      rw [List.all_eq_true]
      intro b hb
      obtain ⟨_, _, rfl⟩ := List.mem_map.mp hb
      rfl]
    exact q _ ((s1.trans s2).trans s3)
end
end K2

set_option Elab.async false
set_option linter.all false
set_option maxRecDepth 100000
set_option maxHeartbeats 8000000
/-! k03: keys -/
namespace K2
open PySem PySem.Spec PyProof.Rows L2 EL LW ND
open Ln (L isWord isSign isTok)
open PySem.EV (ErrC ErrI)
abbrev sKeysOf : Stmt := topS 26
abbrev sKeyLev : Stmt := topS 27
theorem scKeysOf : FnScope ["pattern", "holes", "at"] ["pattern"] (defScope sKeysOf) := ⟨rfl, rfl, rfl, by decide +kernel, rfl, by decide +kernel, by decide +kernel⟩
theorem scKeyLev : FnScope ["form", "pattern", "level", "levels"] ["form"] (defScope sKeyLev) := ⟨rfl, rfl, rfl, by decide +kernel, rfl, by decide +kernel, by decide +kernel⟩
theorem dec_s (x y : Str) : decide (V.str x = V.str y) = decide (x = y) := by
  rw [Bool.eq_iff_iff, decide_eq_true_iff, decide_eq_true_iff]
  exact ⟨fun h => by cases h; rfl, fun h => by rw [h]⟩
theorem slR {K : PySem.W.Frag} {H : Hp} {a : Addr} {xs : List V} {lo hi : Option Int} {Q : VK} (h : Rd H a (.tup xs)) (q : ∀ b H', Same H H' → Rd H' b (.tup (cutV xs lo hi)) → Q (.ref b) H') : rSlA K (.ref a) lo hi H Q :=
  ⟨a, xs, rfl, .inl h, fun c => q a H (Same.refl _) (by rw [cutV_all c]; exact h), fun _ p np => q p _ (same_upd np) (.inl upd_same)⟩
theorem ET.rd {H : Hp} {a : Addr} {xs : List V} : ET H a xs → Rd H a (.tup xs) := fun ⟨o, h, _⟩ => .inr ⟨o, h⟩
theorem rd_same {H H' : Hp} (s : Same H H') {a : Addr} {xs : List V} : Rd H a (.tup xs) → Rd H' a (.tup xs) := fun h => TupS.of s a xs h
theorem at_str (p : List Str) (i : Nat) (h : i < p.length) : atI (p.map V.str) (i : Int) = some (.str (p.getD i hole)) := by
  refine atI_nat ?_
  rw [List.getElem?_map, List.getElem?_eq_getElem h, List.getD_eq_getElem?_getD, List.getElem?_eq_getElem h]
  rfl
theorem strs_nk {H : Hp} : ∀ p : List Str, NkAll H (p.map V.str) (p.map NestedKey.text)
  | [] => .nil
  | x :: p => .cons (.text x) (strs_nk p)
theorem cutTake (p : List Str) (i : Nat) (h : i < p.length) : cutV (p.map V.str) none (some ((i : Int) + 1)) = (p.take (i + 1)).map V.str := by
  have e2 : ((i : Int) + 1) = ((i + 1 : Nat) : Int) := by omega
  rw [e2]
  unfold cutV
  rw [HT.sIx_nat, List.length_map, Nat.min_eq_left (by omega)]
  show List.take (i + 1 - 0) (List.drop 0 _) = _
  rw [List.drop_zero, Nat.sub_zero, List.map_take]
abbrev tHead : Str := Str.ofString "head"
abbrev tTail : Str := Str.ofString "tail"
abbrev tLeft : Str := Str.ofString "left"
abbrev tHole : Str := Str.ofString "hole"
def ownN (p : List Str) : NestedKey := if p.getD 0 hole = hole then .tup [.text tTail, .text (p.getD 1 hole)] else .tup [.text tHead, .text (p.getD 0 hole)]
def holeN (p : List Str) (i : Nat) : NestedKey := if i = 0 then .tup [.text tLeft, .text (p.getD 1 hole)] else .tup [.text tHole, .tup ((p.take (i + 1)).map .text)]
def holesAt (p : List Str) : List Nat := (List.range p.length).filter fun i => decide (p.getD i hole = hole)
def keysN (p : List Str) : List NestedKey := ownN p :: (holesAt p).map (holeN p)
structure PlcOk (p : List Str) : Prop where
  len : 1 ≤ p.length
  two : p.getD 0 hole = hole → 2 ≤ p.length
section
variable {P : Program} {w : World} {K : PySem.W.Frag} {mg : Str → Option Value} {base : Heap} {C T I : Addr}
def spTail (K : PySem.W.Frag) : Sp := fun vs H Q _ => ∃ (a : Addr) (p : List Str), vs = [.ref a] ∧ SqT K H a (p.map V.str) ∧ 1 ≤ p.length ∧ Q (.bl (decide (p.getD 0 hole = hole))) H
theorem ok_tail {f : Addr} {fd : FuncData} {k : Nat} {t1 : Tok} (F : Fun K "is_tail" "is_tail" sIsTail f fd) (mH : mg "HOLE" = some (.str hole t1)) : FnOk P w K mg base CX0 (k + 1) f fd ["place"] (spTail K) := by
  refine F.ok scIsTail (fun vs H Q E h => ?_) (fun cdv A outer s H vs Q E hr h => ?_)
  · obtain ⟨a, p, rfl, _⟩ := h
    rfl
  · obtain ⟨a, p, rfl, hS, h1, q⟩ := h
    refine ⟨_, pss_one (ps_ret (pe_cmpR op_eq (pe_ix ix_tup (pv 0) pe_int (fun _ _ => rfl)) (pe_glob (v := .str hole) (by rfl) mH ⟨_, rfl⟩) (nomark _))), ?_⟩
    refine ⟨.ref a, rfl, a, _, _, _, rfl, rfl, hS, at_str p 0 (by omega), rfl, ?_⟩
    rw [dec_s]
    exact q
def spOwn (K : PySem.W.Frag) : Sp := fun vs H Q _ => ∃ (a : Addr) (p : List Str), vs = [.ref a] ∧ SqT K H a (p.map V.str) ∧ PlcOk p ∧ ∀ b H', Same H H' → Nk H' (.ref b) (ownN p) → Q (.ref b) H'
theorem ok_own {f fT : Addr} {fd dT : FuncData} {k : Nat} (F : Fun K "own_key" "own_key" sOwnKey f fd) (kT : PySem.W.keepIn K (.ref fT) = true) (GT : FnOk P w K mg base CX0 1 fT dT ["place"] (spTail K)) (bT : Binds K dT ["place"] []) (gT : mg "is_tail" = some (.ref fT)) :
    FnOk P w K mg base CX0 2 f fd ["place"] (spOwn K) := by
  refine F.ok scOwnKey (fun vs H Q E h => ?_) (fun cdv A outer s H vs Q E hr h => ?_)
  · obtain ⟨a, p, rfl, _⟩ := h
    rfl
  · obtain ⟨a, p, rfl, hS, hp, q⟩ := h
    refine ⟨_, pss_cons (ps_if (pt_val (pe_call GT hr (by rfl) gT kT bT .nil pass0 (pa_cons (pv 0) pa_nil))) (pss_one (ps_ret (pe_tup (pa_cons pe_str (pa_cons (pe_ix ix_tup (pv 0) pe_int (fun _ _ => rfl)) pa_nil))))) pss_nil)
      (pss_one (ps_ret (pe_tup (pa_cons pe_str (pa_cons (pe_ix ix_tup (pv 0) pe_int (fun _ _ => rfl)) pa_nil))))), ?_⟩
    have l1 := hp.len
    refine ⟨.ref a, rfl, a, p, rfl, hS, l1, _, rfl, ?_⟩
    by_cases c : p.getD 0 hole = hole
    · rw [decide_eq_true c]
      refine iteT ⟨.ref a, rfl, a, _, _, _, rfl, rfl, hS, at_str p 1 (by have := hp.two c; omega), sz 2 (by decide), fun t nt => ?_⟩
      refine q _ _ (same_upd nt) ?_
      unfold ownN
      rw [if_pos c]
      exact .tup (.inl upd_same) (.cons (.text _) (.cons (.text _) .nil))
    · rw [decide_eq_false c]
      refine iteF ⟨.ref a, rfl, a, _, _, _, rfl, rfl, hS, at_str p 0 (by omega), sz 2 (by decide), fun t nt => ?_⟩
      refine q _ _ (same_upd nt) ?_
      unfold ownN
      rw [if_neg c]
      exact .tup (.inl upd_same) (.cons (.text _) (.cons (.text _) .nil))
def spHole (K : PySem.W.Frag) : Sp := fun vs H Q _ => ∃ (a : Addr) (p : List Str) (i : Nat), vs = [.ref a, .int i] ∧ Rd H a (.tup (p.map V.str)) ∧ i < p.length ∧ (i = 0 → 2 ≤ p.length) ∧ ∀ b H', Same H H' → Nk H' (.ref b) (holeN p i) → Q (.ref b) H'
theorem ok_hole {f : Addr} {fd : FuncData} {k : Nat} (F : Fun K "hole_key" "hole_key" sHoleKey f fd) : FnOk P w K mg base CX0 (k + 1) f fd ["pattern", "at"] (spHole K) := by
  refine F.ok scHoleKey (fun vs H Q E h => ?_) (fun cdv A outer s H vs Q E hr h => ?_)
  · obtain ⟨a, p, i, rfl, _⟩ := h
    rfl
  · obtain ⟨a, p, i, rfl, hS, hi, h0, q⟩ := h
    refine ⟨_, pss_cons (ps_if (pt_cmpR op_eq (pv 1) pe_int (nomark _)) (pss_one (ps_ret (pe_tup (pa_cons pe_str (pa_cons (pe_ix ix_tup (pv 0) pe_int (fun _ _ => rfl)) pa_nil))))) pss_nil)
      (pss_one (ps_ret (pe_tup (pa_cons pe_str (pa_cons (pe_slice (r := rSlA K) sl_tupA (pv 0) po_none (po_some (pe_op op_add (pv 1) pe_int))) pa_nil))))), ?_⟩
    refine ⟨_, rfl, rfl, _, rfl, ?_⟩
    by_cases c : i = 0
    · subst c
      refine iteT ⟨.ref a, rfl, a, _, _, _, rfl, rfl, .inl hS, at_str p 1 (by have := h0 rfl; omega), sz 2 (by decide), fun t nt => ?_⟩
      refine q _ _ (same_upd nt) ?_
      unfold holeN
      rw [if_pos rfl]
      exact .tup (.inl upd_same) (.cons (.text _) (.cons (.text _) .nil))
    · rw [show decide (V.int (i : Int) = V.int 0) = false from decide_eq_false fun z => c (by injection z with z; omega)]
      refine iteF ⟨.ref a, rfl, _, rfl, _, _, rfl, rfl, _, rfl, ?_⟩
      refine slR hS fun b H1 s1 hb => ⟨sz 2 (by decide), fun t nt => ?_⟩
      rw [cutTake p i hi] at hb
      refine q _ _ (s1.trans (same_upd nt)) ?_
      unfold holeN
      rw [if_neg c]
      exact .tup (.inl upd_same) (.cons (.text _) (.cons (.tup (rd_same (same_upd nt) hb) (strs_nk _)) .nil))
end
end K2

set_option Elab.async false
set_option linter.all false
set_option maxRecDepth 100000
set_option maxHeartbeats 8000000
/-! k03: keys of patterns, with levels -/
namespace K2
open PySem PySem.Spec PyProof.Rows L2 EL LW ND
open Ln (L isWord isSign isTok)
open PySem.EV (ErrC ErrI)
theorem holes_step (p : List Str) (i : Nat) : ((List.range (i + 1)).filter fun j => decide (p.getD j hole = hole)) = ((List.range i).filter fun j => decide (p.getD j hole = hole)) ++ (if p.getD i hole = hole then [i] else []) := by
  rw [List.range_succ, List.filter_append]
  congr 1
  by_cases c : p.getD i hole = hole
  · rw [if_pos c]
    simp only [List.filter_cons, List.filter_nil, decide_eq_true c, if_true]
  · rw [if_neg c]
    simp only [List.filter_cons, List.filter_nil, decide_eq_false c]
    rfl
theorem NkAll_snoc {H : Hp} {v : V} {k : NestedKey} : ∀ {vs : List V} {ks : List NestedKey}, NkAll H vs ks → Nk H v k → NkAll H (vs ++ [v]) (ks ++ [k])
  | _, _, .nil, h => .cons h .nil
  | _, _, .cons a t, h => .cons a (NkAll_snoc t h)
theorem nkAll_len {H : Hp} : ∀ {vs : List V} {ks : List NestedKey}, NkAll H vs ks → vs.length = ks.length
  | _, _, .nil => rfl
  | _, _, .cons a t => by simp [nkAll_len t]
theorem tupS_lst {H : Hp} {D : Addr} {xs ys : List V} (e : H D = some (.lst xs)) : TupS H (upd H D (.lst ys)) := fun x vs h => by
  rcases h with h | ⟨o, h⟩
  · exact .inl (by rw [upd_ne (fun z => by rw [z, e] at h; cases h)]; exact h)
  · exact .inr ⟨o, by rw [upd_ne (fun z => by rw [z, e] at h; cases h)]; exact h⟩
theorem same_over {H H' : Hp} {D : Addr} {o : HO} (n : H D = none) (s : Same H H') : Same H (upd H' D o) := fun b u hb => by
  rw [upd_ne (ne_of_none hb n)]
  exact s _ _ hb
theorem holes_le (p : List Str) (i : Nat) : ((List.range i).filter fun j => decide (p.getD j hole = hole)).length ≤ i := Nat.le_trans (List.length_filter_le _ _) (by rw [List.length_range]; exact Nat.le_refl _)
section
variable {P : Program} {w : World} {K : PySem.W.Frag} {mg : Str → Option Value} {base : Heap} {C T I : Addr}
def spKeys : Sp := fun vs H Q _ => ∃ (a : Addr) (p : List Str), vs = [.ref a] ∧ Rd H a (.tup (p.map V.str)) ∧ PlcOk p ∧ p.length ≤ 1000 ∧ ∀ b ks H', Same H H' → H' b = some (.lst ks) → NkAll H' ks (keysN p) → Q (.ref b) H'
theorem ok_keys {f fO fH : Addr} {fd dO dH : FuncData} {t1 : Tok} (F : Fun K "keys_of" "keys_of" sKeysOf f fd) (kO : PySem.W.keepIn K (.ref fO) = true) (GO : FnOk P w K mg base CX0 2 fO dO ["place"] (spOwn K)) (bO : Binds K dO ["place"] []) (gO : mg "own_key" = some (.ref fO))
    (kH : PySem.W.keepIn K (.ref fH) = true) (GH : FnOk P w K mg base CX0 1 fH dH ["pattern", "at"] (spHole K)) (bH : Binds K dH ["pattern", "at"] []) (gH : mg "hole_key" = some (.ref fH))
    (mH : mg "HOLE" = some (.str hole t1)) (ml : mg "len" = none) (mr : mg "range" = none) :
    FnOk P w K mg base CX0 3 f fd ["pattern"] spKeys := by
  refine F.ok scKeysOf (fun vs H Q E h => ?_) (fun cdv A outer s H vs Q E hr h => ?_)
  · obtain ⟨a, p, rfl, _⟩ := h
    rfl
  · obtain ⟨a, p, rfl, hS, hp, hz, q⟩ := h
    have nd := scKeysOf.nd
    have r1 := hr.mono (by decide : 1 ≤ 2)
    refine ⟨_, pss_cons (ps_setLc (i := 1) (own := [("at", 2)]) (g := gName 2) (tt := tTest (tOp rEq (tOp (rIxT K) (tVar 0) (tVar 2)) (tC (.str hole)))) rfl nd rfl rfl (sw_true rfl rfl rfl (by decide +kernel)) (pi_range1 rfl mr (pa_cons (pe_callB call_len_seq (by rfl) ml PySem.boot_len (pa_cons (pv 0) pa_nil)) pa_nil))
        (blkOk_by (own := [("at", 2)]) (N := ["pattern", "holes", "at"]) (sc := defScope sKeysOf) (by decide +kernel)) (fun _ _ _ _ _ => pg_name (i := 2) nd rfl (Or.inl rfl)) (fun _ _ _ _ _ => pts_one (pt_cmpR op_eq (pe_ix ix_tup (pv 0) (pv 2) (fun _ _ => rfl)) (pe_glob (v := .str hole) (by rfl) mH ⟨_, rfl⟩) (nomark _)))
        (fun _ _ _ _ _ => pe_call GH r1 (by rfl) gH kH bH .nil pass0 (pa_cons (pv 0) (pa_cons (pv 2) pa_nil))))
      (pss_one (ps_ret (pe_op op_cat (pe_lst (pa_cons (pe_call GO hr (by rfl) gO kO bO .nil pass0 (pa_cons (pv 0) pa_nil)) pa_nil)) (pv 1)))), ?_⟩
    have hl : (p.map V.str).length = p.length := List.length_map ..
    have l1 := hp.len
    refine ⟨.ref a, rfl, a, _, rfl, .inr (.inl hS), _, rfl, by rw [hl]; omega, by rw [hl]; omega, fun D nD => ?_⟩
    rw [show ((p.map V.str).length : Int).toNat = p.length from by rw [hl]; omega]
    refine lc_range (lo := 0) (n := p.length) (fun i H1 => Same H H1 ∧ ∃ acc, H1 D = some (.lst acc) ∧ NkAll H1 acc (((List.range i).filter fun j => decide (p.getD j hole = hole)).map (holeN p))) ⟨same_upd nD, [], upd_same, .nil⟩ ?_ ?_
    · rintro i H1 hi ⟨s1, acc, eD, hN⟩
      refine ⟨rfl, ?_⟩
      rw [holes_step]
      refine ⟨.ref a, rfl, _, rfl, a, _, _, _, rfl, rfl, .inl (rd_same s1 hS), (by rw [show (0 : Int) + (i : Int) = ((i : Nat) : Int) from by omega]; exact at_str p i hi), rfl, _, rfl, ?_⟩
      rw [dec_s]
      by_cases c : p.getD i hole = hole
      · rw [decide_eq_true c, if_pos c]
        refine iteT ⟨.ref a, rfl, _, rfl, a, p, i, (by rw [show (0 : Int) + (i : Int) = ((i : Nat) : Int) from by omega]; rfl), rd_same s1 hS, hi, fun z => hp.two (z ▸ c), fun b H2 s2 hN2 => ?_⟩
        have hacc := nkAll_len hN
        rw [List.length_map] at hacc
        have hle := holes_le p i
        refine ⟨acc, s2 _ _ eD, sz _ (by omega), same_over nD (s1.trans s2), acc ++ [.ref b], upd_same, ?_⟩
        rw [List.map_append]
        exact NkAll.keep (tupS_lst (s2 _ _ eD)) (NkAll_snoc (NkAll.keep (TupS.of s2) hN) hN2)
      · rw [decide_eq_false c, if_neg c, List.append_nil]
        exact iteF ⟨s1, acc, eD, hN⟩
    · rintro H1 ⟨s1, acc, eD, hN⟩
      refine ⟨.ref a, rfl, a, p, rfl, .inl (rd_same s1 hS), hp, fun b H2 s2 hN2 => ⟨sz 1 (by decide), fun t nt => ?_⟩⟩
      have hacc := nkAll_len hN
      rw [List.length_map] at hacc
      have hle := holes_le p p.length
      have s3 := same_upd (o := .lst [V.ref b]) nt
      refine ⟨.ref D, rfl, t, D, _, acc, rfl, rfl, upd_same, s3 _ _ (s2 _ _ eD), sz _ (by rw [List.length_singleton]; omega), fun r nr => ?_⟩
      have s4 := same_upd (o := .lst ([V.ref b] ++ acc)) nr
      exact q _ _ _ (((s1.trans s2).trans s3).trans s4) upd_same (.cons (hN2.keep (TupS.of (s3.trans s4))) (NkAll.keep (TupS.of ((s2.trans s3).trans s4)) hN))
end
end K2

set_option Elab.async false
set_option linter.all false
set_option maxRecDepth 100000
set_option maxHeartbeats 8000000
/-! k03: keys with levels -/
namespace K2
open PySem PySem.Spec PyProof.Rows L2 EL LW ND
open Ln (L isWord isSign isTok)
open PySem.EV (ErrC ErrI)
theorem as_range (p : List Str) : p = (List.range p.length).map fun i => p.getD i hole := by
  refine List.ext_getElem (by simp) fun i h1 h2 => ?_
  rw [List.getElem_map, List.getElem_range, List.getD_eq_getElem?_getD, List.getElem?_eq_getElem h1]
  rfl
theorem holesAt_len (p : List Str) : (holesAt p).length = p.countP (· == hole) := by
  conv => rhs; rw [as_range p]
  rw [List.countP_map, List.countP_eq_length_filter]
  unfold holesAt
  congr 2
theorem keysN_len (p : List Str) : (keysN p).length = p.countP (· == hole) + 1 := by
  unfold keysN
  rw [List.length_cons, List.length_map, holesAt_len]
theorem PatOk.plc {p : List Str} (h : PatOk p) : PlcOk p := by
  refine ⟨h.len1, fun e => ?_⟩
  have l1 := h.len1
  have s := h.some_
  rcases Nat.lt_or_ge p.length 2 with c | c
  · have : p = [hole] := by
      match p, l1, c, e with
      | [x], _, _, e => rw [show x = hole from e]
    rw [this] at s
    exact absurd (by decide) s
  · exact c
/-- a key and its level -/
def KL (H : Hp) (v : V) (q : NestedKey × Int) : Prop := ∃ a ka, v = .ref a ∧ Rd H a (.tup [.ref ka, .int q.2]) ∧ Nk H (.ref ka) q.1
theorem KL.keep {H H' : Hp} (s : TupS H H') {v : V} {q : NestedKey × Int} : KL H v q → KL H' v q := fun ⟨a, ka, e, h, n⟩ => ⟨a, ka, e, s _ _ h, n.keep s⟩
abbrev KlAll (H : Hp) (vs : List V) (qs : List (NestedKey × Int)) : Prop := Paired (KL H) vs qs
theorem klAll_keep {H H' : Hp} (s : TupS H H') : ∀ {vs : List V} {qs : List (NestedKey × Int)}, KlAll H vs qs → KlAll H' vs qs
  | _, _, .nil => .nil
  | _, _, .cons a t => .cons (a.keep s) (klAll_keep s t)
def keyLevs (f : Fm) : List (NestedKey × Int) := (keysN f.pat).zip (f.lev :: f.levs)
theorem key_ref {H : Hp} {v : V} {ks : List NestedKey} : Nk H v (.tup ks) → ∃ a, v = .ref a := fun h => by
  cases h
  exact ⟨_, rfl⟩
theorem keysN_tup (p : List Str) : ∀ k ∈ keysN p, ∃ ks, k = .tup ks := by
  intro k hk
  unfold keysN at hk
  rcases List.mem_cons.mp hk with rfl | hk
  · unfold ownN
    split
    · exact ⟨_, rfl⟩
    · exact ⟨_, rfl⟩
  · obtain ⟨i, _, rfl⟩ := List.mem_map.mp hk
    unfold holeN
    split
    · exact ⟨_, rfl⟩
    · exact ⟨_, rfl⟩
theorem kl_of {H : Hp} : ∀ {ts : List Addr} {vs : List V} {ks : List NestedKey} {is : List Int}, Paired (fun (t : Addr) (q : V × V) => H t = some (.tup [q.1, q.2])) ts (vs.zip (is.map V.int)) → NkAll H vs ks → (∀ k ∈ ks, ∃ l, k = .tup l) → ks.length = is.length → KlAll H (ts.map V.ref) (ks.zip is)
  | ts, [], [], [], h, _, _, _ => by
    cases h
    exact .nil
  | ts, v :: vs, k :: ks, i :: is, h, .cons n ns, ht, hl => by
    cases h with
    | cons a t =>
      obtain ⟨l, rfl⟩ := ht k List.mem_cons_self
      obtain ⟨ka, rfl⟩ := key_ref n
      exact .cons ⟨_, ka, rfl, .inl a, n⟩ (kl_of t ns (fun k hk => ht k (List.mem_cons_of_mem _ hk)) (Nat.succ.inj hl))
  | _, [], _ :: _, _, _, n, _, _ => by cases n
  | _, _ :: _, [], _, _, n, _, _ => by cases n
section
variable {P : Program} {w : World} {K : PySem.W.Frag} {mg : Str → Option Value} {base : Heap} {C T I : Addr}
/-- forms, tracked or not as to what may be sorted later -/
def FormR (H : Hp) (v : V) (f : Fm) : Prop := ∃ a ap al, v = .ref a ∧ Rd H a (.tup [.ref ap, .int f.lev, .ref al]) ∧ Rd H ap (.tup (f.pat.map V.str)) ∧ Rd H al (.tup (f.levs.map V.int))
theorem FormAt.r {H : Hp} {v : V} {f : Fm} : FormAt H v f → FormR H v f := fun ⟨a, ap, al, e, h1, h2, h3⟩ => ⟨a, ap, al, e, K2.ET.rd h1, K2.ET.rd h2, K2.ET.rd h3⟩
theorem FormR.keep {H H' : Hp} (s : TupS H H') {v : V} {f : Fm} : FormR H v f → FormR H' v f := fun ⟨a, b, c, e, h1, h2, h3⟩ => ⟨a, b, c, e, s _ _ h1, s _ _ h2, s _ _ h3⟩
def spKeyLev : Sp := fun vs H Q _ => ∃ v f, vs = [v] ∧ FormR H v f ∧ FmOk f ∧ ∀ b ts H', Same H H' → H' b = some (.lst ts) → KlAll H' ts (keyLevs f) → Q (.ref b) H'
theorem ok_keylev {f fO : Addr} {fd dO : FuncData} (F : Fun K "key_levels" "key_levels" sKeyLev f fd) (kO : PySem.W.keepIn K (.ref fO) = true) (GO : FnOk P w K mg base CX0 3 fO dO ["pattern"] spKeys) (bO : Binds K dO ["pattern"] []) (gO : mg "keys_of" = some (.ref fO))
    (mli : mg "list" = none) (mz : mg "zip" = none) :
    FnOk P w K mg base CX0 4 f fd ["form"] spKeyLev := by
  refine F.ok scKeyLev (fun vs H Q E h => ?_) (fun cdv A outer s H vs Q E hr h => ?_)
  · obtain ⟨v, p, rfl, _⟩ := h
    rfl
  · obtain ⟨v, fm, rfl, ⟨a, ap, al, rfl, h1, h2, h3⟩, hf, q⟩ := h
    have nd := scKeyLev.nd
    refine ⟨_, pss_cons (ps_asg (pv 0) (pg_tup (by rfl) (pgs_cons (pg_name (i := 1) nd rfl (.inl rfl)) (pgs_cons (pg_name (i := 2) nd rfl (.inl rfl)) (pgs_cons (pg_name (i := 3) nd rfl (.inl rfl)) pgs_nil)))))
      (pss_one (ps_ret (LZ.pe_listZip rfl (pa_cons (pe_call GO hr (by rfl) gO kO bO .nil pass0 (pa_cons (pv 1) pa_nil)) (pa_cons (pe_op op_cat (pe_lst (pa_cons (pv 2) pa_nil)) (pe_callTy call_list_of (by rfl) mli boot_list (pa_cons (pv 3) pa_nil))) pa_nil)) (by rfl) mli boot_list (by rfl) mz))), ?_⟩
    refine ⟨.ref a, rfl, a, _, rfl, .inl h1, rfl, ?_⟩
    refine ⟨_, _, rfl, _, _, rfl, _, _, rfl, rfl, ?_⟩
    refine ⟨.ref ap, rfl, ap, fm.pat, rfl, h2, hf.pat.plc, by have := hf.pat.len7; omega, fun b ks H1 s1 eb hN => ?_⟩
    refine ⟨_, rfl, sz 1 (by decide), fun t nt => ?_⟩
    have s2 := same_upd (o := .lst [V.int fm.lev]) nt
    refine ⟨.ref al, rfl, al, _, rfl, .inr (.inl (rd_same (s1.trans s2) h3)), fun l nl => ?_⟩
    have s3 := same_upd (o := .lst (fm.levs.map V.int)) nl
    have lf := hf.len
    have few := hf.pat.few
    refine ⟨t, l, _, _, rfl, rfl, s3 _ _ upd_same, upd_same, sz _ (by simp; omega), fun r nr => ?_⟩
    have s4 := same_upd (o := .lst ([V.int fm.lev] ++ fm.levs.map V.int)) nr
    have s14 := (s2.trans s3).trans s4
    have hk := nkAll_len hN
    rw [keysN_len] at hk
    refine ⟨b, r, ks, _, rfl, .of (s14 _ _ eb), .of upd_same, by simp; omega, sz _ (by omega), fun H' p ts s5 np _ ep hP => ?_⟩
    refine q p _ H' ((s1.trans s14).trans s5) ep ?_
    refine kl_of (is := fm.lev :: fm.levs) hP (NkAll.keep (TupS.of (s14.trans s5)) hN) (keysN_tup _) (by rw [keysN_len, List.length_cons, lf])
end
end K2

set_option Elab.async false
set_option linter.all false
set_option maxRecDepth 100000
set_option maxHeartbeats 8000000
/-! k03: what stands behind places -/
namespace K2
open PySem PySem.Spec PyProof.Rows L2 EL LW ND
open Ln (L isWord isSign isTok)
open PySem.EV (ErrC ErrI)
abbrev sFoll : Stmt := topS 28
theorem scFoll : FnScope ["patterns", "behind", "pattern", "at", "place", "item"] ["patterns"] (defScope sFoll) := ⟨rfl, rfl, rfl, by decide +kernel, rfl, by decide +kernel, by decide +kernel⟩
/-- places, what stands behind each -/
abbrev Fol := List (List Str × List Str)
def plK (p : List Str) : NestedKey := .tup (p.map .text)
theorem map_text_inj : ∀ {p q : List Str}, p.map NestedKey.text = q.map NestedKey.text → p = q
  | [], [], _ => rfl
  | [], _ :: _, h => by cases h
  | _ :: _, [], h => by cases h
  | x :: p, y :: q, h => by
    injection h with h1 h2
    injection h1 with h1
    rw [h1, map_text_inj h2]
theorem plK_inj {p q : List Str} : plK p = plK q ↔ p = q := by
  refine ⟨fun h => ?_, fun h => by rw [h]⟩
  injection h with h
  exact map_text_inj h
theorem depth_texts : ∀ p : List Str, NestedKey.depthAll (p.map NestedKey.text) ≤ 0
  | [] => Nat.le_refl _
  | x :: p => by
    show max (NestedKey.depth (.text x)) (NestedKey.depthAll (p.map NestedKey.text)) ≤ 0
    have := depth_texts p
    exact Nat.max_le.mpr ⟨Nat.le_refl _, this⟩
theorem plK_depth (p : List Str) : (plK p).depth ≤ 8 := by
  show NestedKey.depthAll (p.map NestedKey.text) + 1 ≤ 8
  have := depth_texts p
  omega
def addF : Fol → List Str → Str → Fol
  | [], pl, it => [(pl, [it])]
  | q :: m, pl, it => if q.1 = pl then (q.1, q.2 ++ [it]) :: m else q :: addF m pl it
def kvF (m : Fol) (las : List Addr) : List (NestedKey × V) := List.zipWith (fun q la => (plK q.1, V.ref la)) m las
/-- lists of texts at these addresses -/
def LsAt (H0 H : Hp) (la : Addr) (q : List Str × List Str) : Prop := H0 la = none ∧ H la = some (.lst (q.2.map V.str))
theorem fol_find {H0 H : Hp} {pl : List Str} : ∀ {las : List Addr} {m : Fol}, Paired (LsAt H0 H) las m → las.Nodup →
    (atN (kvF m las) (plK pl) = none ∧ ∀ it, addF m pl it = m ++ [(pl, [it])]) ∨
    ∃ la xs, atN (kvF m las) (plK pl) = some (.ref la) ∧ la ∈ las ∧ H la = some (.lst (xs.map V.str)) ∧ (∃ q ∈ m, q.2 = xs) ∧
      ∀ it H', H' la = some (.lst ((xs ++ [it]).map V.str)) → (∀ b ∈ las, b ≠ la → H' b = H b) → Paired (LsAt H0 H') las (addF m pl it) ∧ kvF (addF m pl it) las = kvF m las
  | _, _, .nil, _ => .inl ⟨rfl, fun _ => rfl⟩
  | la :: las, q :: m, .cons a t, nd => by
    have nd2 := List.nodup_cons.mp nd
    have hc : atN (kvF (q :: m) (la :: las)) (plK pl) = if q.1 = pl then some (.ref la) else atN (kvF m las) (plK pl) := by
      show ((((plK q.1, V.ref la) :: kvF m las).find? fun kv => decide (kv.1 = plK pl)).map (·.2)) = _
      rw [List.find?_cons]
      by_cases c : q.1 = pl
      · rw [if_pos c]
        simp only [decide_eq_true (plK_inj.mpr c)]
        rfl
      · rw [if_neg c]
        simp only [decide_eq_false (fun z => c (plK_inj.mp z))]
        rfl
    rw [hc]
    by_cases c : q.1 = pl
    · rw [if_pos c]
      refine .inr ⟨la, q.2, rfl, List.mem_cons_self, a.2, ⟨q, List.mem_cons_self, rfl⟩, fun it H' e1 e2 => ?_⟩
      have ea : addF (q :: m) pl it = (q.1, q.2 ++ [it]) :: m := if_pos c
      rw [ea]
      refine ⟨.cons ⟨a.1, e1⟩ ?_, rfl⟩
      have go : ∀ {las' : List Addr} {m' : Fol}, Paired (LsAt H0 H) las' m' → (∀ b ∈ las', b ∈ las) → Paired (LsAt H0 H') las' m' := by
        intro las' m' h
        induction h with
        | nil => intro _; exact .nil
        | cons b u ih =>
          intro hb
          refine .cons ⟨b.1, ?_⟩ (ih fun x hx => hb x (List.mem_cons_of_mem _ hx))
          have hm := hb _ List.mem_cons_self
          rw [e2 _ (List.mem_cons_of_mem _ hm) (fun z => nd2.1 (z ▸ hm))]
          exact b.2
      exact go t fun _ h => h
    · rw [if_neg c]
      have ea : ∀ it, addF (q :: m) pl it = q :: addF m pl it := fun it => if_neg c
      rcases fol_find (pl := pl) t nd2.2 with ⟨h1, h2⟩ | ⟨l, xs, h1, h2, h3, ⟨q', h4, h5⟩, h6⟩
      · exact .inl ⟨h1, fun it => by rw [ea, h2]; rfl⟩
      · refine .inr ⟨l, xs, h1, List.mem_cons_of_mem _ h2, h3, ⟨q', List.mem_cons_of_mem _ h4, h5⟩, fun it H' e1 e2 => ?_⟩
        obtain ⟨g1, g2⟩ := h6 it H' e1 fun b hb => e2 b (List.mem_cons_of_mem _ hb)
        rw [ea]
        refine ⟨.cons ⟨a.1, ?_⟩ g1, ?_⟩
        · rw [e2 la List.mem_cons_self (fun z => nd2.1 (z ▸ h2))]
          exact a.2
        · show _ :: kvF (addF m pl it) las = _ :: kvF m las
          rw [g2]
structure FolIn (P : Program) (w : World) (H0 H : Hp) (d : Addr) (m : Fol) (n : Nat) : Prop where
  same : Same H0 H
  new : H0 d = none
  ex : ∃ las : List Addr, DN P w H d (kvF m las) ∧ las.Nodup ∧ Paired (LsAt H0 H) las m
  len : m.length ≤ n
  lens : ∀ q ∈ m, q.2.length ≤ n
theorem addF_len : ∀ (m : Fol) (pl : List Str) (it : Str), (addF m pl it).length ≤ m.length + 1
  | [], _, _ => Nat.le_refl _
  | q :: m, pl, it => by
    unfold addF
    split
    · exact Nat.le_succ _
    · exact Nat.succ_le_succ (addF_len m pl it)
theorem addF_lens {n : Nat} : ∀ {m : Fol} {pl : List Str} {it : Str}, (∀ q ∈ m, q.2.length ≤ n) → ∀ q ∈ addF m pl it, q.2.length ≤ n + 1
  | [], pl, it, _, q, hq => by
    obtain rfl := List.mem_singleton.mp hq
    exact Nat.succ_le_succ (Nat.zero_le _)
  | q0 :: m, pl, it, h, q, hq => by
    unfold addF at hq
    split at hq
    · rcases List.mem_cons.mp hq with rfl | hq
      · have := h q0 List.mem_cons_self
        simp
        omega
      · exact Nat.le_succ_of_le (h q (List.mem_cons_of_mem _ hq))
    · rcases List.mem_cons.mp hq with rfl | hq
      · exact Nat.le_succ_of_le (h _ List.mem_cons_self)
      · exact addF_lens (fun q hq => h q (List.mem_cons_of_mem _ hq)) q hq
theorem DN.at_ext {P : Program} {w : World} {H : Hp} {d : Addr} {kvs : List (NestedKey × V)} : DN P w H d kvs → ∃ φ, H d = some (.ext φ) := fun ⟨xs, ep, a, _⟩ => ⟨_, a⟩
theorem pair_mem {H0 H : Hp} {la : Addr} : ∀ {las : List Addr} {m : Fol}, Paired (LsAt H0 H) las m → la ∈ las → H0 la = none ∧ ∃ xs, H la = some (.lst xs)
  | _, _, .nil, h => by cases h
  | _, _, .cons a t, h => by
    rcases List.mem_cons.mp h with rfl | h
    · exact ⟨a.1, _, a.2⟩
    · exact pair_mem t h
theorem pairs_keep {H0 H H' : Hp} : ∀ {las : List Addr} {m : Fol}, Paired (LsAt H0 H) las m → (∀ b ∈ las, H' b = H b) → Paired (LsAt H0 H') las m
  | _, _, .nil, _ => .nil
  | _, _, .cons a t, h => .cons ⟨a.1, by rw [h _ List.mem_cons_self]; exact a.2⟩ (pairs_keep t fun b hb => h b (List.mem_cons_of_mem _ hb))
theorem pairs_snoc {α β : Type} {F : α → β → Prop} {x : α} {y : β} {as : List α} {bs : List β} (h : Paired F as bs) (e : F x y) : Paired F (as ++ [x]) (bs ++ [y]) := ND.paired_snoc h e
theorem pairs_len {α β : Type} {F : α → β → Prop} : ∀ {as : List α} {bs : List β}, Paired F as bs → as.length = bs.length
  | _, _, .nil => rfl
  | _, _, .cons _ t => by simp [pairs_len t]
/-- behind.setdefault(place, []).append(item) -/
theorem fol_put {P : Program} {w : World} {K : PySem.W.Frag} {H0 H1 : Hp} {d a t : Addr} {m : Fol} {n : Nat} {pl : List Str} {it : Str} {Q : VK} (F : FolIn P w H0 H1 d m n) (hn : n < 100000) (hk : Nk H1 (.ref a) (plK pl)) (nt : H1 t = none)
    (q : ∀ H', FolIn P w H0 H' d (addF m pl it) (n + 1) → Q .non H') :
    rDefN P w (.ref d) [.ref a, .ref t] (upd H1 t (.lst [])) fun x H2 => tyV K "list" x H2 ∧ rAppend x [.str it] H2 Q := by
  obtain ⟨las, hD, nd, hp⟩ := F.ex
  have s1 := same_upd (o := .lst []) nt
  have n0 : H0 t = none := by
    cases e : H0 t with
    | none => rfl
    | some o =>
      rw [F.same _ _ e] at nt
      cases nt
  obtain ⟨φ0, hd0⟩ := DN.at_ext hD
  have htd : t ≠ d := fun z => by rw [z, hd0] at nt; cases nt
  have hl := pairs_len hp
  have big : (100001 : Nat) ≤ sizeLine := by rw [sizeLine_eq]; decide
  have ll : (kvF m las).length = m.length := by
    unfold kvF
    rw [List.length_zipWith, hl, Nat.min_self]
  have flen := F.len
  have fnew := F.new
  refine ⟨d, a, plK pl, kvF m las, .ref t, rfl, rfl, hD.same s1, hk.keep (TupS.of s1), plK_depth _, by rw [ll]; omega, fun z hz => ?_, fun hz φ hD2 => ?_⟩
  · rcases fol_find (pl := pl) hp nd with ⟨h1, _⟩ | ⟨la, xs, h1, h2, h3, ⟨q', h4, h5⟩, h6⟩
    · rw [h1] at hz
      cases hz
    · rw [h1] at hz
      cases hz
      have e1 : (upd H1 t (.lst [])) la = some (.lst (xs.map V.str)) := s1 _ _ h3
      have hq := F.lens q' h4
      rw [h5] at hq
      obtain ⟨l0, _⟩ := pair_mem hp h2
      refine ⟨.inl ⟨rfl, _, SqL.of e1⟩, la, _, _, rfl, rfl, e1, by rw [List.length_map]; omega, q _ ?_⟩
      have e2 : (xs.map V.str ++ [V.str it]) = (xs ++ [it]).map V.str := by rw [List.map_append]; rfl
      rw [e2]
      obtain ⟨g1, g2⟩ := h6 it (upd (upd H1 t (.lst [])) la (.lst ((xs ++ [it]).map V.str))) upd_same fun b hb nb => by
        rw [upd_ne nb, upd_ne (fun z => by obtain ⟨_, ys, e⟩ := pair_mem hp hb; rw [z, nt] at e; cases e)]
      have hld : la ≠ d := fun z => by rw [z, hd0] at h3; cases h3
      refine ⟨same_over l0 (F.same.trans s1), F.new, ⟨las, ?_, nd, g1⟩, Nat.le_trans (addF_len _ _ _) (by omega), addF_lens F.lens⟩
      rw [g2]
      exact DN.keep (tupS_lst e1) (fun o e => by rw [upd_ne hld.symm]; exact e) (hD.same s1)
  · rcases fol_find (pl := pl) hp nd with ⟨h1, h2⟩ | ⟨la, xs, h1, _⟩
    · have e1 : (upd (upd H1 t (.lst [])) d (.ext φ)) t = some (.lst []) := by
        rw [upd_ne htd, upd_same]
      refine ⟨.inl ⟨rfl, _, SqL.of e1⟩, t, _, _, rfl, rfl, e1, by show 0 < sizeLine; omega, q _ ?_⟩
      refine ⟨same_over n0 (same_over F.new (F.same.trans s1)), F.new, ⟨las ++ [t], ?_, ?_, ?_⟩, Nat.le_trans (addF_len _ _ _) (by omega), addF_lens F.lens⟩
      · have e3 : kvF (addF m pl it) (las ++ [t]) = putN (kvF m las) (plK pl) (.ref t) := by
          unfold putN
          rw [h1, h2]
          show _ = kvF m las ++ [(plK pl, V.ref t)]
          unfold kvF
          rw [List.zipWith_append hl.symm]
          rfl
        rw [e3]
        exact DN.keep (tupS_lst e1) (fun o e => by rw [upd_ne htd.symm]; exact e) hD2
      · refine List.nodup_append.mpr ⟨nd, List.nodup_cons.mpr ⟨List.not_mem_nil, List.nodup_nil⟩, fun x hx y hy z => ?_⟩
        obtain rfl := List.mem_singleton.mp hy
        obtain ⟨_, ys, e⟩ := pair_mem hp hx
        rw [z, nt] at e
        cases e
      · rw [h2]
        refine pairs_snoc (pairs_keep hp fun b hb => ?_) ⟨n0, upd_same⟩
        obtain ⟨_, ys, e⟩ := pair_mem hp hb
        rw [upd_ne (fun z => by rw [z, nt] at e; cases e), upd_ne (fun z => by rw [z, hd0] at e; cases e), upd_ne (fun z => by rw [z, nt] at e; cases e)]
    · rw [h1] at hz
      cases hz
end K2

set_option Elab.async false
set_option linter.all false
set_option maxRecDepth 100000
set_option maxHeartbeats 8000000
/-! k03: followers -/
namespace K2
open PySem PySem.Spec PyProof.Rows L2 EL LW ND
open Ln (L isWord isSign isTok)
open PySem.EV (ErrC ErrI)
abbrev noS : Str := Str.ofString ""
def itemAt (p : List Str) (i : Nat) : Str := if i < p.length then p.getD i hole else noS
def folPat (m : Fol) (p : List Str) : Nat → Fol
  | 0 => m
  | j + 1 => if p.take (j + 1) = [hole] then folPat m p j else addF (folPat m p j) (p.take (j + 1)) (itemAt p (j + 1))
def folOf (ps : List (List Str)) : Fol := ps.foldl (fun m p => folPat m p p.length) []
theorem folOf_step {ps : List (List Str)} {i : Nat} {p : List Str} (h : ps[i]? = some p) : folOf (ps.take (i + 1)) = folPat (folOf (ps.take i)) p p.length := by
  obtain ⟨hi, e⟩ := List.getElem?_eq_some_iff.mp h
  unfold folOf
  rw [List.take_succ_eq_append_getElem hi, List.foldl_append, e]
  rfl
theorem FolIn.more {P : Program} {w : World} {H0 H : Hp} {d : Addr} {m : Fol} {n k : Nat} (F : FolIn P w H0 H d m n) (h : n ≤ k) : FolIn P w H0 H d m k := ⟨F.same, F.new, F.ex, Nat.le_trans F.len h, fun q hq => Nat.le_trans (F.lens q hq) h⟩
theorem FolIn.keep {P : Program} {w : World} {H0 H H' : Hp} {d : Addr} {m : Fol} {n : Nat} (F : FolIn P w H0 H d m n) (s : Same H H') : FolIn P w H0 H' d m n := by
  obtain ⟨las, a, b, c⟩ := F.ex
  refine ⟨F.same.trans s, F.new, ⟨las, a.same s, b, ?_⟩, F.len, F.lens⟩
  have go : ∀ {las' : List Addr} {m' : Fol}, Paired (LsAt H0 H) las' m' → Paired (LsAt H0 H') las' m' := by
    intro las' m' h
    induction h with
    | nil => exact .nil
    | cons b u ih => exact .cons ⟨b.1, s _ _ b.2⟩ ih
  exact go c
/-- a list of patterns -/
def PatR (H : Hp) (v : V) (p : List Str) : Prop := ∃ a, v = .ref a ∧ Rd H a (.tup (p.map V.str))
theorem PatR.keep {H H' : Hp} (s : TupS H H') {v : V} {p : List Str} : PatR H v p → PatR H' v p := fun ⟨a, e, h⟩ => ⟨a, e, s _ _ h⟩
theorem prs_keep {α : Type} {F F' : V → α → Prop} (h : ∀ {v : V} {x : α}, F v x → F' v x) : ∀ {vs : List V} {ps : List α}, Paired F vs ps → Paired F' vs ps
  | _, _, .nil => .nil
  | _, _, .cons a t => .cons (h a) (prs_keep h t)
theorem prs_get {α : Type} {F : V → α → Prop} : ∀ {vs : List V} {ps : List α} {i : Nat} {v : V}, Paired F vs ps → vs[i]? = some v → ∃ x, ps[i]? = some x ∧ F v x
  | _, _, 0, v, .cons h _, e => by
    obtain rfl := Option.some.inj e
    exact ⟨_, rfl, h⟩
  | _, _, i + 1, v, .cons _ t, e => prs_get (i := i) t (by simpa using e)
  | _, _, _, _, .nil, e => by simp at e
theorem take_hole {p : List Str} {i : Nat} : PyData.eqv (.tuple ((p.take i).map PyData.str)) (.tuple ([hole].map PyData.str)) = decide (p.take i = [hole]) := strs_eqv _ _
theorem cut_upto (p : List Str) (i : Nat) (h : i ≤ p.length) : cutV (p.map V.str) none (some (i : Int)) = (p.take i).map V.str := by
  unfold cutV
  rw [HT.sIx_nat, List.length_map, Nat.min_eq_left h]
  show List.take (i - 0) (List.drop 0 _) = _
  rw [List.drop_zero, Nat.sub_zero, List.map_take]
theorem rDefN_mono {P : Program} {w : World} {x : V} {vs : List V} {H : Hp} {Q Q' : VK} (h : rDefN P w x vs H Q) (m : ∀ v H', Q v H' → Q' v H') : rDefN P w x vs H Q' := by
  obtain ⟨d, a, k, kvs, v, e1, e2, a1, a2, a3, a4, q1, q2⟩ := h
  exact ⟨d, a, k, kvs, v, e1, e2, a1, a2, a3, a4, fun z hz => m _ _ (q1 z hz), fun hn φ hD => m _ _ (q2 hn φ hD)⟩
section
variable {P : Program} {w : World} {K : PySem.W.Frag} {mg : Str → Option Value} {base : Heap} {C T I : Addr}
def spFoll (P : Program) (w : World) (K : PySem.W.Frag) : Sp := fun vs H Q _ => ∃ (a : Addr) (xs : List V) (ps : List (List Str)), vs = [.ref a] ∧ SqL K H a xs ∧ Paired (PatR H) xs ps ∧ ps.length ≤ 1000 ∧ (∀ p ∈ ps, PatOk p) ∧ ∀ d H', FolIn P w H H' d (folOf ps) (7 * ps.length) → Q (.ref d) H'
theorem ok_foll {f : Addr} {fd : FuncData} {k : Nat} {t1 : Tok} (F : Fun K "followers" "followers" sFoll f fd) (mH : mg "HOLE" = some (.str hole t1)) (ml : mg "len" = none) (mr : mg "range" = none) :
    FnOk P w K mg base CX0 (k + 1) f fd ["patterns"] (spFoll P w K) := by
  refine F.ok scFoll (fun vs H Q E h => ?_) (fun cdv A outer s H vs Q E hr h => ?_)
  · obtain ⟨a, xs, ps, rfl, _⟩ := h
    rfl
  · obtain ⟨a, xs, ps, rfl, hS, hp, hz, hok, q⟩ := h
    have nd := scFoll.nd
    have hu := hr.units
    have hu9 : (A.deeper (envOfC "followers" (defScope sFoll) s.heap.objs.size f cdv)).units + 9 < cLine := by omega
    refine ⟨_, pss_cons (ps_set (i := 1) nd rfl (.inl rfl) pe_newN)
      (pss_cons (ps_for PassesOwn.never rfl (pi_list (pv 0)) (pg_name (i := 2) nd rfl (.inl rfl))
        (pss_one (ps_for PassesOwn.never rfl (pi_range2 rfl mr (pa_cons pe_int (pa_cons (pe_op op_add (pe_callB call_len_seq (by rfl) ml PySem.boot_len (pa_cons (pv 2) pa_nil)) pe_int) pa_nil))) (pg_name (i := 3) nd rfl (.inl rfl))
          (pss_cons (ps_set (i := 4) nd rfl (.inl rfl) (pe_slice (r := rSlA K) sl_tupA (pv 2) po_none (po_some (pv 3))))
          (pss_cons (ps_set (i := 5) nd rfl (.inl rfl) (pe_ifExp (pt_cmpR op_lt (pv 3) (pe_callB call_len_seq (by rfl) ml PySem.boot_len (pa_cons (pv 2) pa_nil)) (nomark _)) (pe_ix ix_tup (pv 2) (pv 3) (fun _ _ => rfl)) pe_str))
          (pss_one (ps_if (pt_cmpR (r := rNeD K) (op_neD hu) (pv 4) (pe_tup (pa_cons (pe_glob (v := .str hole) (by rfl) mH ⟨_, rfl⟩) pa_nil)) (nomark _))
            (pss_one (ps_expr (pe_bm PySem.F.plainAttrs_list PySem.F.slot_list_append PySem.F.type_list_append mt_append (pe_dm PySem.F.slot_dict_setdefault PySem.F.type_dict_setdefault (mt_setdefault hu9) (pv 1) (pa_cons (pv 4) (pa_cons (pe_lst pa_nil) pa_nil))) (pa_cons (pv 5) pa_nil)))) pss_nil)))))))
      (pss_one (ps_ret (pv 1)))), ?_⟩
    refine fun d φ nd0 hD => ?_
    refine ⟨.ref a, rfl, a, rfl, ⟨_, SqL.same (same_upd nd0) hS⟩, for_list (xs := xs) (fun i σ H' => FolIn P w H H' d (folOf (ps.take i)) (7 * i) ∧ ∃ y2 y3 y4 y5 : Option V, σ = [some (.ref a), some (.ref d), y2, y3, y4, y5])
      ⟨⟨same_upd nd0, nd0, ⟨[], hD, List.nodup_nil, .nil⟩, Nat.zero_le _, fun q hq => by cases hq⟩, none, none, none, none, rfl⟩ (fun i σ H' _ h => SqL.same h.1.same hS) ?_ ?_⟩
    · rintro i x σ H1 hx ⟨F1, y2, y3, y4, y5, rfl⟩
      obtain ⟨p, hpi, ap, rfl, hap⟩ := prs_get hp hx
      have hpo := hok p (List.mem_of_getElem? hpi)
      have l1 := hpo.len1
      have l7 := hpo.len7
      have hl : (p.map V.str).length = p.length := List.length_map ..
      have hi : i < ps.length := (List.getElem?_eq_some_iff.mp hpi).1
      have ap1 := rd_same F1.same hap
      refine ⟨_, rfl, ap, _, rfl, .inr (.inl ap1), _, _, rfl, rfl, _, _, rfl, ⟨by decide, by decide, by rw [hl]; omega, by rw [hl]; omega⟩, ?_⟩
      rw [show (((p.map V.str).length : Int) + 1 - 1).toNat = p.length from by rw [hl]; omega]
      refine for_range (fun j σ H' => FolIn P w H H' d (folPat (folOf (ps.take i)) p j) (7 * i + j) ∧ ∃ y3 y4 y5 : Option V, σ = [some (.ref a), some (.ref d), some (.ref ap), y3, y4, y5]) ⟨F1, y3, y4, y5, rfl⟩ ?_ ?_
      · rintro j σ H2 hj ⟨F2, z3, z4, z5, rfl⟩
        have ap2 := rd_same F2.same hap
        refine ⟨_, rfl, _, rfl, _, rfl, ?_⟩
        refine slR ap2 fun b H3 s3 hb => ?_
        rw [show (1 : Int) + (j : Int) = ((j + 1 : Nat) : Int) from by omega] at hb ⊢
        rw [cut_upto p (j + 1) (by omega)] at hb
        have ap3 := rd_same s3 ap2
        have F3 := F2.keep s3
        refine ⟨_, rfl, _, rfl, ap, _, rfl, .inr (.inl ap3), _, _, rfl, rfl, _, rfl, ?_⟩
        rw [hl]
        have asc : ∀ x ∈ p, AscS x := fun x hx => fixed_asc (hpo.item x hx).2
        have tk : (p.take (j + 1)).length = j + 1 := by rw [List.length_take]; omega
        have done : ∀ (it : Str) (H4 : Hp) (σ4 : L2.St), it = itemAt p (j + 1) → p.take (j + 1) ≠ [hole] → FolIn P w H H4 d (addF (folPat (folOf (ps.take i)) p j) (p.take (j + 1)) it) (7 * i + j + 1) → FolIn P w H H4 d (folPat (folOf (ps.take i)) p (j + 1)) (7 * i + (j + 1)) := by
          intro it H4 σ4 e c h
          unfold folPat
          rw [if_neg c, ← e]
          exact h
        have skip : ∀ (H4 : Hp), p.take (j + 1) = [hole] → FolIn P w H H4 d (folPat (folOf (ps.take i)) p j) (7 * i + j) → FolIn P w H H4 d (folPat (folOf (ps.take i)) p (j + 1)) (7 * i + (j + 1)) := by
          intro H4 c h
          unfold folPat
          rw [if_pos c]
          exact h.more (by omega)
        have val : ∃ it : Str, it = itemAt p (j + 1) := ⟨_, rfl⟩
        obtain ⟨it, hit⟩ := val
        rcases Nat.lt_or_ge (j + 1) p.length with c | c
        · have e1 : it = p.getD (j + 1) hole := by rw [hit]; exact if_pos c
          rw [decide_eq_true (show ((j + 1 : Nat) : Int) < (p.length : Int) by omega)]
          refine iteT ⟨_, rfl, _, rfl, ap, _, _, _, rfl, rfl, .inl ap3, at_str p (j + 1) c, ?_⟩
          rw [← e1]
          refine ⟨_, rfl, sz 1 (by decide), fun t nt => ?_⟩
          have st := same_upd (o := .tup [V.str hole]) nt
          refine ⟨.tuple ((p.take (j + 1)).map PyData.str), .tuple ([hole].map PyData.str), .tup (SqT.same st (.inl hb)) (strs_dp _), .tup (SqT.of upd_same) (strs_dp [hole]), strs_shaped _ fun x hx => asc x (List.mem_of_mem_take hx), by decide +kernel, _, rfl, ?_⟩
          rw [take_hole]
          by_cases c2 : p.take (j + 1) = [hole]
          · rw [decide_eq_true c2]
            exact iteF ⟨skip _ c2 (F3.keep st), _, _, _, rfl⟩
          · rw [decide_eq_false c2]
            refine iteT ⟨_, rfl, ?_, _, rfl, Nat.zero_le _, fun t2 nt2 => ?_⟩
            · obtain ⟨las, hD3, _⟩ := (F3.keep st).ex
              exact ⟨d, _, rfl, hD3⟩
            · show tNil _ _ _
              unfold tNil
              show rDefN P w (.ref d) [.ref b, .ref t2] (upd (upd H3 t (.tup [V.str hole])) t2 (.lst [])) _
              refine rDefN_mono (fol_put (K := K) (it := it) (F3.keep st) (by omega) (.tup (rd_same st hb) (strs_nk _)) nt2 (Q := fun _ H4 => FolIn P w H H4 d (folPat (folOf (ps.take i)) p (j + 1)) (7 * i + (j + 1))) fun H4 h4 => done it H4 [] hit c2 h4) fun v H4 hv => ⟨hv.1, _, rfl, ?_⟩
              obtain ⟨l, ys, y, g1, g2, g3, g4, g5⟩ := hv.2
              exact ⟨l, ys, y, g1, g2, g3, g4, g5, _, _, _, rfl⟩
        · have e1 : it = noS := by rw [hit]; exact if_neg (by omega)
          rw [decide_eq_false (show ¬ ((j + 1 : Nat) : Int) < (p.length : Int) by omega)]
          refine iteF ?_
          rw [show (Str.ofString "" : Str) = it from e1.symm]
          refine ⟨_, rfl, sz 1 (by decide), fun t nt => ?_⟩
          have st := same_upd (o := .tup [V.str hole]) nt
          refine ⟨.tuple ((p.take (j + 1)).map PyData.str), .tuple ([hole].map PyData.str), .tup (SqT.same st (.inl hb)) (strs_dp _), .tup (SqT.of upd_same) (strs_dp [hole]), strs_shaped _ fun x hx => asc x (List.mem_of_mem_take hx), by decide +kernel, _, rfl, ?_⟩
          rw [take_hole]
          by_cases c2 : p.take (j + 1) = [hole]
          · rw [decide_eq_true c2]
            exact iteF ⟨skip _ c2 (F3.keep st), _, _, _, rfl⟩
          · rw [decide_eq_false c2]
            refine iteT ⟨_, rfl, ?_, _, rfl, Nat.zero_le _, fun t2 nt2 => ?_⟩
            · obtain ⟨las, hD3, _⟩ := (F3.keep st).ex
              exact ⟨d, _, rfl, hD3⟩
            · show tNil _ _ _
              unfold tNil
              show rDefN P w (.ref d) [.ref b, .ref t2] (upd (upd H3 t (.tup [V.str hole])) t2 (.lst [])) _
              refine rDefN_mono (fol_put (K := K) (it := it) (F3.keep st) (by omega) (.tup (rd_same st hb) (strs_nk _)) nt2 (Q := fun _ H4 => FolIn P w H H4 d (folPat (folOf (ps.take i)) p (j + 1)) (7 * i + (j + 1))) fun H4 h4 => done it H4 [] hit c2 h4) fun v H4 hv => ⟨hv.1, _, rfl, ?_⟩
              obtain ⟨l, ys, y, g1, g2, g3, g4, g5⟩ := hv.2
              exact ⟨l, ys, y, g1, g2, g3, g4, g5, _, _, _, rfl⟩
      · rintro σ H2 ⟨F2, z3, z4, z5, rfl⟩
        refine ⟨?_, _, z3, z4, z5, rfl⟩
        rw [folOf_step hpi]
        exact F2.more (by omega)
    · rintro σ H1 ⟨F1, y2, y3, y4, y5, rfl⟩
      refine ⟨_, rfl, q d H1 ?_⟩
      have hx := pairs_len hp
      rw [hx, List.take_length] at F1
      exact F1
end
end K2

set_option Elab.async false
set_option linter.all false
set_option maxRecDepth 100000
set_option maxHeartbeats 8000000
/-! k03: first, tail and middle tokens -/
namespace K2
open PySem PySem.Spec PyProof.Rows L2 EL LW ND
open Ln (L isWord isSign isTok)
open PySem.EV (ErrC ErrI)
abbrev sFirsts : Stmt := topS 29
abbrev sTails : Stmt := topS 30
abbrev sMids : Stmt := topS 31
theorem scFirsts : FnScope ["patterns", "pattern"] ["patterns"] (defScope sFirsts) := ⟨rfl, rfl, rfl, by decide +kernel, rfl, by decide +kernel, by decide +kernel⟩
theorem scTails : FnScope ["patterns", "pattern"] ["patterns"] (defScope sTails) := ⟨rfl, rfl, rfl, by decide +kernel, rfl, by decide +kernel, by decide +kernel⟩
theorem scMids : FnScope ["patterns", "found", "pattern", "rest", "item"] ["patterns"] (defScope sMids) := ⟨rfl, rfl, rfl, by decide +kernel, rfl, by decide +kernel, by decide +kernel⟩
def isT (p : List Str) : Bool := decide (p.getD 0 hole = hole)
def firstsM (ps : List (List Str)) : List Str := (ps.filter fun p => !isT p).map fun p => p.getD 0 hole
def tailsM (ps : List (List Str)) : List Str := (ps.filter isT).map fun p => p.getD 1 hole
def midsOf (p : List Str) : List Str := (if isT p then p.drop 2 else p.drop 1).filter fun x => decide (x ≠ hole)
def midsM (ps : List (List Str)) : List Str := ps.flatMap midsOf
theorem sel_step {α β : Type} {ps : List α} {i : Nat} {p : α} {t : α → Bool} {v : α → β} (h : ps[i]? = some p) : ((ps.take (i + 1)).filter t).map v = ((ps.take i).filter t).map v ++ (if t p then [v p] else []) := by
  obtain ⟨hi, e⟩ := List.getElem?_eq_some_iff.mp h
  rw [List.take_succ_eq_append_getElem hi, List.filter_append, List.map_append, e]
  congr 1
  cases c : t p with
  | true => simp [List.filter_cons, c]
  | false => simp [List.filter_cons, c]
theorem sel_le {α β : Type} (ps : List α) (i : Nat) (t : α → Bool) (v : α → β) : (((ps.take i).filter t).map v).length ≤ ps.length := by
  rw [List.length_map]
  exact Nat.le_trans (List.length_filter_le _ _) (List.length_take_le' _ _)
section
variable {P : Program} {w : World} {K : PySem.W.Frag} {mg : Str → Option Value} {base : Heap} {C T I : Addr}
def spSel (K : PySem.W.Frag) (g : List (List Str) → List Str) : Sp := fun vs H Q _ => ∃ (a : Addr) (xs : List V) (ps : List (List Str)), vs = [.ref a] ∧ SqL K H a xs ∧ Paired (PatR H) xs ps ∧ ps.length ≤ 1000 ∧ (∀ p ∈ ps, PatOk p) ∧ ∀ b H', Same H H' → H' b = some (.lst ((g ps).map V.str)) → Q (.ref b) H'
theorem ok_firsts {f fT : Addr} {fd dT : FuncData} (F : Fun K "first_tokens" "first_tokens" sFirsts f fd) (kT : PySem.W.keepIn K (.ref fT) = true) (GT : FnOk P w K mg base CX0 1 fT dT ["place"] (spTail K)) (bT : Binds K dT ["place"] []) (gT : mg "is_tail" = some (.ref fT)) :
    FnOk P w K mg base CX0 2 f fd ["patterns"] (spSel K firstsM) := by
  refine F.ok scFirsts (fun vs H Q E h => ?_) (fun cdv A outer s H vs Q E hr h => ?_)
  · obtain ⟨a, xs, ps, rfl, _⟩ := h
    rfl
  · obtain ⟨a, xs, ps, rfl, hS, hp, hz, hok, q⟩ := h
    have nd := scFirsts.nd
    refine ⟨_, pss_one (ps_ret (pe_lc (own := [("pattern", 1)]) (g := gName 1) (tt := tNot (tB (tCall (spTail K) [] E0 (tCons (tVar 1) tNil)))) rfl nd (pi_list (pv 0)) (blkOk_by (own := [("pattern", 1)]) (N := ["patterns", "pattern"]) (sc := defScope sFirsts) (by decide +kernel)) (fun _ _ _ _ _ => pg_name (i := 1) nd rfl (Or.inl rfl))
        (fun _ _ _ _ _ => pts_one (pt_not (pt_val (pe_call GT hr (by rfl) gT kT bT .nil pass0 (pa_cons (pv 1) pa_nil))))) (fun _ _ _ _ _ => pe_ix (r := rIxT K) ix_tup (pv 1) pe_int (fun _ _ => rfl)))), ?_⟩
    have hx := pairs_len hp
    refine ⟨.ref a, rfl, a, rfl, ⟨_, hS⟩, fun D nD => ?_⟩
    refine lc_list (xs := xs) (fun i H' => Same H H' ∧ H' D = some (.lst ((((ps.take i).filter fun p => !isT p).map fun p => p.getD 0 hole).map V.str))) ⟨same_upd nD, upd_same⟩ (fun i H' _ h => SqL.same h.1 hS) ?_ ?_
    · rintro i x H1 hxi ⟨s1, eD⟩
      obtain ⟨p, hpi, ap, rfl, hap⟩ := prs_get hp hxi
      have l1 := (hok p (List.mem_of_getElem? hpi)).len1
      refine ⟨rfl, _, rfl, ap, p, rfl, .inl (rd_same s1 hap), l1, _, rfl, ?_⟩
      rw [sel_step hpi, List.map_append]
      by_cases c : p.getD 0 hole = hole
      · have e : isT p = true := decide_eq_true c
        rw [decide_eq_true c, e]
        refine iteF ⟨s1, ?_⟩
        simpa using eD
      · have e : isT p = false := decide_eq_false c
        rw [decide_eq_false c, e]
        have hle := sel_le ps i (fun p => !isT p) (fun p => p.getD 0 hole)
        refine iteT ⟨.ref ap, rfl, ap, _, _, _, rfl, rfl, .inl (rd_same s1 hap), at_str p 0 l1, _, eD, sz _ (by rw [List.length_map]; omega), same_over nD s1, ?_⟩
        rw [upd_same]
        rfl
    · rintro H1 ⟨s1, eD⟩
      rw [hx, List.take_length] at eD
      exact q D H1 s1 eD
theorem ok_tails {f fT : Addr} {fd dT : FuncData} (F : Fun K "tail_tokens" "tail_tokens" sTails f fd) (kT : PySem.W.keepIn K (.ref fT) = true) (GT : FnOk P w K mg base CX0 1 fT dT ["place"] (spTail K)) (bT : Binds K dT ["place"] []) (gT : mg "is_tail" = some (.ref fT)) :
    FnOk P w K mg base CX0 2 f fd ["patterns"] (spSel K tailsM) := by
  refine F.ok scTails (fun vs H Q E h => ?_) (fun cdv A outer s H vs Q E hr h => ?_)
  · obtain ⟨a, xs, ps, rfl, _⟩ := h
    rfl
  · obtain ⟨a, xs, ps, rfl, hS, hp, hz, hok, q⟩ := h
    have nd := scTails.nd
    refine ⟨_, pss_one (ps_ret (pe_lc (own := [("pattern", 1)]) (g := gName 1) (tt := tB (tCall (spTail K) [] E0 (tCons (tVar 1) tNil))) rfl nd (pi_list (pv 0)) (blkOk_by (own := [("pattern", 1)]) (N := ["patterns", "pattern"]) (sc := defScope sTails) (by decide +kernel)) (fun _ _ _ _ _ => pg_name (i := 1) nd rfl (Or.inl rfl))
        (fun _ _ _ _ _ => pts_one (pt_val (pe_call GT hr (by rfl) gT kT bT .nil pass0 (pa_cons (pv 1) pa_nil)))) (fun _ _ _ _ _ => pe_ix (r := rIxT K) ix_tup (pv 1) pe_int (fun _ _ => rfl)))), ?_⟩
    have hx := pairs_len hp
    refine ⟨.ref a, rfl, a, rfl, ⟨_, hS⟩, fun D nD => ?_⟩
    refine lc_list (xs := xs) (fun i H' => Same H H' ∧ H' D = some (.lst ((((ps.take i).filter isT).map fun p => p.getD 1 hole).map V.str))) ⟨same_upd nD, upd_same⟩ (fun i H' _ h => SqL.same h.1 hS) ?_ ?_
    · rintro i x H1 hxi ⟨s1, eD⟩
      obtain ⟨p, hpi, ap, rfl, hap⟩ := prs_get hp hxi
      have hpo := hok p (List.mem_of_getElem? hpi)
      have l1 := hpo.len1
      refine ⟨rfl, _, rfl, ap, p, rfl, .inl (rd_same s1 hap), l1, _, rfl, ?_⟩
      rw [sel_step hpi, List.map_append]
      by_cases c : p.getD 0 hole = hole
      · have e : isT p = true := decide_eq_true c
        rw [decide_eq_true c, e]
        have hle := sel_le ps i isT (fun p => p.getD 1 hole)
        refine iteT ⟨.ref ap, rfl, ap, _, _, _, rfl, rfl, .inl (rd_same s1 hap), at_str p 1 (by have := hpo.plc.two c; omega), _, eD, sz _ (by rw [List.length_map]; omega), same_over nD s1, ?_⟩
        rw [upd_same]
        rfl
      · have e : isT p = false := decide_eq_false c
        rw [decide_eq_false c, e]
        refine iteF ⟨s1, ?_⟩
        simpa using eD
    · rintro H1 ⟨s1, eD⟩
      rw [hx, List.take_length] at eD
      exact q D H1 s1 eD
theorem cut_from (p : List Str) (i : Nat) (h : i ≤ p.length) : cutV (p.map V.str) (some (i : Int)) none = (p.drop i).map V.str := by
  unfold cutV
  rw [HT.sIx_nat, List.length_map, Nat.min_eq_left h]
  show List.take (p.length - i) _ = _
  rw [← List.map_drop, List.take_of_length_le (by rw [List.length_map, List.length_drop]; exact Nat.le_refl _)]
theorem mids_step {ps : List (List Str)} {i : Nat} {p : List Str} (h : ps[i]? = some p) : midsM (ps.take (i + 1)) = midsM (ps.take i) ++ midsOf p := by
  obtain ⟨hi, e⟩ := List.getElem?_eq_some_iff.mp h
  unfold midsM
  rw [List.take_succ_eq_append_getElem hi, List.flatMap_append, e]
  simp
theorem mids_len {ps : List (List Str)} (h : ∀ p ∈ ps, p.length ≤ 7) : ∀ i, (midsM (ps.take i)).length ≤ 7 * i
  | 0 => by simp [midsM]
  | i + 1 => by
    have ih := mids_len h i
    cases e : ps[i]? with
    | none =>
      have : ps.take (i + 1) = ps.take i := by
        have := List.getElem?_eq_none_iff.mp e
        rw [List.take_of_length_le (by omega), List.take_of_length_le this]
      rw [this]
      omega
    | some p =>
      rw [mids_step e, List.length_append]
      have h7 := h p (List.mem_of_getElem? e)
      have : (midsOf p).length ≤ p.length := by
        unfold midsOf
        refine Nat.le_trans (List.length_filter_le _ _) ?_
        split <;> rw [List.length_drop] <;> omega
      omega
theorem ok_mids {f fT : Addr} {fd dT : FuncData} {t1 : Tok} (F : Fun K "middle_tokens" "middle_tokens" sMids f fd) (kT : PySem.W.keepIn K (.ref fT) = true) (GT : FnOk P w K mg base CX0 1 fT dT ["place"] (spTail K)) (bT : Binds K dT ["place"] []) (gT : mg "is_tail" = some (.ref fT))
    (mH : mg "HOLE" = some (.str hole t1)) : FnOk P w K mg base CX0 2 f fd ["patterns"] (spSel K midsM) := by
  refine F.ok scMids (fun vs H Q E h => ?_) (fun cdv A outer s H vs Q E hr h => ?_)
  · obtain ⟨a, xs, ps, rfl, _⟩ := h
    rfl
  · obtain ⟨a, xs, ps, rfl, hS, hp, hz, hok, q⟩ := h
    have nd := scMids.nd
    refine ⟨_, pss_cons (ps_set (i := 1) nd rfl (.inl rfl) (pe_lst pa_nil))
      (pss_cons (ps_for PassesOwn.never rfl (pi_list (pv 0)) (pg_name (i := 2) nd rfl (.inl rfl))
        (pss_cons (ps_set (i := 3) nd rfl (.inl rfl) (pe_ifExp (pt_val (pe_call GT hr (by rfl) gT kT bT .nil pass0 (pa_cons (pv 2) pa_nil))) (pe_slice (r := rSlA K) sl_tupA (pv 2) (po_some pe_int) po_none) (pe_slice (r := rSlA K) sl_tupA (pv 2) (po_some pe_int) po_none)))
        (pss_one (ps_expr (pe_bm PySem.F.plainAttrs_list PySem.F.slot_list_extend PySem.F.type_list_extend mt_extend (pv 1) (pa_cons (pe_lc (own := [("item", 4)]) (g := gName 4) (tt := tTest (tOp rNe (tVar 4) (tC (.str hole)))) rfl nd (pi_tup (pv 3)) (blkOk_by (own := [("item", 4)]) (N := ["patterns", "found", "pattern", "rest", "item"]) (sc := defScope sMids) (by decide +kernel)) (fun _ _ _ _ _ => pg_name (i := 4) nd rfl (Or.inl rfl))
            (fun _ _ _ _ _ => pts_one (pt_cmpR op_ne (pv 4) (pe_glob (v := .str hole) (by rfl) mH ⟨_, rfl⟩) (nomark _))) (fun _ _ _ _ _ => pv 4)) pa_nil))))))
      (pss_one (ps_ret (pv 1)))), ?_⟩
    have hx := pairs_len hp
    have h7 : ∀ p ∈ ps, p.length ≤ 7 := fun p hp => (hok p hp).len7
    refine ⟨Nat.zero_le _, fun D nD => ?_⟩
    refine ⟨.ref a, rfl, a, rfl, ⟨_, SqL.same (same_upd nD) hS⟩, for_list (xs := xs) (fun i σ H' => Same H H' ∧ H' D = some (.lst ((midsM (ps.take i)).map V.str)) ∧ ∃ y2 y3 y4 : Option V, σ = [some (.ref a), some (.ref D), y2, y3, y4])
      ⟨same_upd nD, upd_same, none, none, none, rfl⟩ (fun i σ H' _ h => SqL.same h.1 hS) ?_ ?_⟩
    · rintro i x σ H1 hxi ⟨s1, eD, y2, y3, y4, rfl⟩
      obtain ⟨p, hpi, ap, rfl, hap⟩ := prs_get hp hxi
      have hpo := hok p (List.mem_of_getElem? hpi)
      have l1 := hpo.len1
      have l7 := hpo.len7
      have hap1 := rd_same s1 hap
      refine ⟨_, rfl, ap, p, rfl, .inl hap1, l1, _, rfl, ?_⟩
      by_cases c : p.getD 0 hole = hole
      · rw [decide_eq_true c]
        refine iteT ⟨_, rfl, _, rfl, ?_⟩
        show tNoPart _ _ _
        unfold tNoPart
        refine slR hap1 fun b H3 s3 hb => ?_
        rw [show (2 : Int) = ((2 : Nat) : Int) from rfl, cut_from p 2 (by have := hpo.plc.two c; omega)] at hb
        obtain ⟨l, hl⟩ : ∃ l, l = p.drop 2 := ⟨_, rfl⟩
        rw [← hl] at hb
        have hl7 : l.length ≤ 7 := by rw [hl, List.length_drop]; omega
        have hm : midsOf p = l.filter fun x => decide (x ≠ hole) := by
          unfold midsOf
          rw [show isT p = true from decide_eq_true c, hl]
          rfl
        have hll : (l.map V.str).length = l.length := List.length_map ..
        have s13 := s1.trans s3
        have hDn : H D = none := nD
        refine ⟨_, rfl, .inl ⟨rfl, _, SqL.of (s3 _ _ eD)⟩, ?_⟩
        refine ⟨.ref b, rfl, b, rfl, ⟨_, .inl hb⟩, fun D2 nD2 => ?_⟩
        refine lc_tup (xs := l.map V.str) (fun j H' => Same H3 H' ∧ H' D2 = some (.lst (((l.take j).filter fun x => decide (x ≠ hole)).map V.str))) ⟨same_upd nD2, upd_same⟩ (fun j H' _ h => .inl (rd_same h.1 hb)) ?_ ?_
        · rintro j x H4 hxj ⟨s4, eD4⟩
          rw [List.getElem?_map] at hxj
          obtain ⟨z, hz, rfl⟩ := Option.map_eq_some_iff.mp hxj
          refine ⟨rfl, _, rfl, rfl, _, rfl, ?_⟩
          rw [dec_s]
          have st := sel_step (t := fun x => decide (x ≠ hole)) (v := fun x : Str => x) hz
          rw [List.map_id', List.map_id'] at st
          rw [st, List.map_append]
          by_cases c2 : z = hole
          · rw [decide_eq_true c2]
            refine iteF ⟨s4, ?_⟩
            simpa [c2] using eD4
          · rw [decide_eq_false c2]
            refine iteT ⟨_, rfl, _, eD4, sz _ (by rw [List.length_map]; have := Nat.le_trans (List.length_filter_le (fun x => decide (x ≠ hole)) (l.take j)) (List.length_take_le' _ _); omega), same_over nD2 s4, ?_⟩
            rw [upd_same]
            simp [c2]
        · rintro H4 ⟨s4, eD4⟩
          rw [hll, List.take_length] at eD4
          have hle : ((l.filter fun x => decide (x ≠ hole)).map V.str).length ≤ 7 := by
            rw [List.length_map]
            exact Nat.le_trans (List.length_filter_le _ _) hl7
          have hmi := mids_len h7 i
          have hi := (List.getElem?_eq_some_iff.mp hpi).1
          refine ⟨D, D2, _, _, rfl, rfl, s4 _ _ (s3 _ _ eD), eD4, sz _ (by rw [List.length_map]; omega), same_over hDn (s13.trans s4), ?_, _, _, _, rfl⟩
          rw [upd_same, mids_step hpi, List.map_append, hm]
      · rw [decide_eq_false c]
        refine iteF ⟨_, rfl, _, rfl, ?_⟩
        show tNoPart _ _ _
        unfold tNoPart
        refine slR hap1 fun b H3 s3 hb => ?_
        rw [show (1 : Int) = ((1 : Nat) : Int) from rfl, cut_from p 1 (by omega)] at hb
        obtain ⟨l, hl⟩ : ∃ l, l = p.drop 1 := ⟨_, rfl⟩
        rw [← hl] at hb
        have hl7 : l.length ≤ 7 := by rw [hl, List.length_drop]; omega
        have hm : midsOf p = l.filter fun x => decide (x ≠ hole) := by
          unfold midsOf
          rw [show isT p = false from decide_eq_false c, hl]
          rfl
        have hll : (l.map V.str).length = l.length := List.length_map ..
        have s13 := s1.trans s3
        have hDn : H D = none := nD
        refine ⟨_, rfl, .inl ⟨rfl, _, SqL.of (s3 _ _ eD)⟩, ?_⟩
        refine ⟨.ref b, rfl, b, rfl, ⟨_, .inl hb⟩, fun D2 nD2 => ?_⟩
        refine lc_tup (xs := l.map V.str) (fun j H' => Same H3 H' ∧ H' D2 = some (.lst (((l.take j).filter fun x => decide (x ≠ hole)).map V.str))) ⟨same_upd nD2, upd_same⟩ (fun j H' _ h => .inl (rd_same h.1 hb)) ?_ ?_
        · rintro j x H4 hxj ⟨s4, eD4⟩
          rw [List.getElem?_map] at hxj
          obtain ⟨z, hz, rfl⟩ := Option.map_eq_some_iff.mp hxj
          refine ⟨rfl, _, rfl, rfl, _, rfl, ?_⟩
          rw [dec_s]
          have st := sel_step (t := fun x => decide (x ≠ hole)) (v := fun x : Str => x) hz
          rw [List.map_id', List.map_id'] at st
          rw [st, List.map_append]
          by_cases c2 : z = hole
          · rw [decide_eq_true c2]
            refine iteF ⟨s4, ?_⟩
            simpa [c2] using eD4
          · rw [decide_eq_false c2]
            refine iteT ⟨_, rfl, _, eD4, sz _ (by rw [List.length_map]; have := Nat.le_trans (List.length_filter_le (fun x => decide (x ≠ hole)) (l.take j)) (List.length_take_le' _ _); omega), same_over nD2 s4, ?_⟩
            rw [upd_same]
            simp [c2]
        · rintro H4 ⟨s4, eD4⟩
          rw [hll, List.take_length] at eD4
          have hle : ((l.filter fun x => decide (x ≠ hole)).map V.str).length ≤ 7 := by
            rw [List.length_map]
            exact Nat.le_trans (List.length_filter_le _ _) hl7
          have hmi := mids_len h7 i
          have hi := (List.getElem?_eq_some_iff.mp hpi).1
          refine ⟨D, D2, _, _, rfl, rfl, s4 _ _ (s3 _ _ eD), eD4, sz _ (by rw [List.length_map]; omega), same_over hDn (s13.trans s4), ?_, _, _, _, rfl⟩
          rw [upd_same, mids_step hpi, List.map_append, hm]
    · rintro σ H1 ⟨s1, eD, y2, y3, y4, rfl⟩
      rw [hx, List.take_length] at eD
      exact ⟨_, rfl, q D H1 s1 eD⟩
end
end K2

set_option Elab.async false
set_option linter.all false
set_option maxRecDepth 100000
set_option maxHeartbeats 8000000
/-! k03: clashes, where there is none -/
namespace K2
open PySem PySem.Spec PyProof.Rows L2 EL LW ND
open Ln (L isWord isSign isTok)
open PySem.EV (ErrC ErrI)
abbrev sDoubled : Stmt := topS 33
abbrev sUnlike : Stmt := topS 34
abbrev sParted : Stmt := topS 35
abbrev sTailMid : Stmt := topS 36
abbrev sHardNo : Stmt := topS 37
abbrev sSoftAl : Stmt := topS 38
abbrev sLeast : Stmt := topS 39
theorem scDoubled : FnScope ["patterns", "pattern"] ["patterns"] (defScope sDoubled) := ⟨rfl, rfl, rfl, by decide +kernel, rfl, by decide +kernel, by decide +kernel⟩
theorem scUnlike : FnScope ["forms", "first", "unlike", "form", "key", "level"] ["forms"] (defScope sUnlike) := ⟨rfl, rfl, rfl, by decide +kernel, rfl, by decide +kernel, by decide +kernel⟩
theorem scParted : FnScope ["patterns", "behind", "place"] ["patterns"] (defScope sParted) := ⟨rfl, rfl, rfl, by decide +kernel, rfl, by decide +kernel, by decide +kernel⟩
theorem scTailMid : FnScope ["patterns", "middles", "token"] ["patterns"] (defScope sTailMid) := ⟨rfl, rfl, rfl, by decide +kernel, rfl, by decide +kernel, by decide +kernel⟩
theorem scHardNo : FnScope ["patterns", "hard", "first", "word"] ["patterns", "hard"] (defScope sHardNo) := ⟨rfl, rfl, rfl, by decide +kernel, rfl, by decide +kernel, by decide +kernel⟩
theorem scSoftAl : FnScope ["patterns", "hard", "alone", "pattern", "word"] ["patterns", "hard"] (defScope sSoftAl) := ⟨rfl, rfl, rfl, by decide +kernel, rfl, by decide +kernel, by decide +kernel⟩
theorem scLeast : FnScope ["forms", "hard", "patterns", "found", "kind", "culprits", "form"] ["forms", "hard"] (defScope sLeast) := ⟨rfl, rfl, rfl, by decide +kernel, rfl, by decide +kernel, by decide +kernel⟩
def datP (p : List Str) : PyData := .tuple (p.map PyData.str)
theorem pats_dp {K : PySem.W.Frag} {H : Hp} : ∀ {xs : List V} {ps : List (List Str)}, Paired (PatR H) xs ps → DpAll K H xs (ps.map datP)
  | _, _, .nil => .nil
  | _, _, .cons ⟨a, e, h⟩ t => by
    subst e
    exact .cons (.tup (.inl h) (strs_dp _)) (pats_dp t)
theorem pats_lay : ∀ ps : List (List Str), (∀ p ∈ ps, ∀ x ∈ p, AscS x) → PyData.canLayAll0 (ps.map datP) = true
  | [], _ => rfl
  | p :: ps, h => by
    show (PyData.canLay0 (datP p) && PyData.canLayAll0 (ps.map datP)) = true
    rw [pats_lay ps fun q hq => h q (List.mem_cons_of_mem _ hq), Bool.and_true]
    exact strs_lay p (h p List.mem_cons_self)
theorem datP_eqv (p q : List Str) : (datP p).eqv (datP q) = decide (p = q) := strs_eqv p q
theorem PatOk.asc {p : List Str} (h : PatOk p) : ∀ x ∈ p, AscS x := fun x hx => fixed_asc (h.item x hx).2
theorem count_pats (ps : List (List Str)) (p : List Str) : (ps.map datP).countP (fun e => e.eqv (datP p)) = ps.count p := by
  rw [List.countP_map, List.count_eq_countP]
  congr 1
  funext q
  show (datP q).eqv (datP p) = (q == p)
  rw [datP_eqv, Bool.eq_iff_iff]
  simp
section
variable {P : Program} {w : World} {K : PySem.W.Frag} {mg : Str → Option Value} {base : Heap} {C T I : Addr}
def spNone1 (K : PySem.W.Frag) (ok : List (List Str) → Prop) : Sp := fun vs H Q _ => ∃ (a : Addr) (xs : List V) (ps : List (List Str)), vs = [.ref a] ∧ SqL K H a xs ∧ Paired (PatR H) xs ps ∧ ps.length ≤ 100 ∧ (∀ p ∈ ps, PatOk p) ∧ ok ps ∧ ∀ b H', Same H H' → H' b = some (.lst []) → Q (.ref b) H'
theorem ok_doubled {f : Addr} {fd : FuncData} {k : Nat} (F : Fun K "doubled" "doubled" sDoubled f fd) : FnOk P w K mg base CX0 (k + 1) f fd ["patterns"] (spNone1 K List.Nodup) := by
  refine F.ok scDoubled (fun vs H Q E h => ?_) (fun cdv A outer s H vs Q E hr h => ?_)
  · obtain ⟨a, xs, ps, rfl, _⟩ := h
    rfl
  · obtain ⟨a, xs, ps, rfl, hS, hp, hz, hok, hn, q⟩ := h
    have nd := scDoubled.nd
    have hu := hr.units
    have hu5 : (A.deeper (envOfC "doubled" (defScope sDoubled) s.heap.objs.size f cdv)).units + 65 < cLine := by have := hr.un; omega
    refine ⟨_, pss_one (ps_ret (pe_lc (own := [("pattern", 1)]) (g := gName 1) (tt := tTest (tOp (rI0 fun i j => V.bl (decide (i > j))) (tBM K "list" (rCountD K) (tVar 0) (tCons (tVar 1) tNil)) (tC (.int 1)))) rfl nd (pi_list (pv 0)) (blkOk_by (own := [("pattern", 1)]) (N := ["patterns", "pattern"]) (sc := defScope sDoubled) (by decide +kernel)) (fun _ _ _ _ _ => pg_name (i := 1) nd rfl (Or.inl rfl))
        (fun _ _ _ _ _ => pts_one (pt_cmpR op_gt (pe_bm (r := rCountD K) PySem.F.plainAttrs_list PySem.F.slot_list_count PySem.F.type_list_count (mt_countD hu5) (pv 0) (pa_cons (pv 1) pa_nil)) pe_int (nomark _))) (fun _ _ _ _ _ => pv 1))), ?_⟩
    have hx := pairs_len hp
    refine ⟨.ref a, rfl, a, rfl, ⟨_, hS⟩, fun D nD => ?_⟩
    refine lc_list (xs := xs) (fun i H' => Same H H' ∧ H' D = some (.lst [])) ⟨same_upd nD, upd_same⟩ (fun i H' _ h => SqL.same h.1 hS) ?_ ?_
    · rintro i x H1 hxi ⟨s1, eD⟩
      obtain ⟨p, hpi, ap, rfl, hap⟩ := prs_get hp hxi
      have hpo := hok p (List.mem_of_getElem? hpi)
      have hp1 : Paired (PatR H1) xs ps := prs_keep (fun h => h.keep (TupS.of s1)) hp
      refine ⟨rfl, .ref a, rfl, .inl ⟨rfl, _, SqL.same s1 hS⟩, _, rfl, a, xs, _, _, datP p, rfl, rfl, SqL.same s1 hS, pats_dp hp1, .tup (.inl (rd_same s1 hap)) (strs_dp _), pats_lay ps fun p hp => (hok p hp).asc, strs_shaped p hpo.asc, _, _, rfl, rfl, _, rfl, ?_⟩
      rw [count_pats]
      have : ps.count p ≤ 1 := List.nodup_iff_count.mp hn p
      rw [decide_eq_false (by omega)]
      exact iteF ⟨s1, eD⟩
    · rintro H1 ⟨s1, eD⟩
      exact q D H1 s1 eD
end
end K2

set_option Elab.async false
set_option linter.all false
set_option maxRecDepth 100000
set_option maxHeartbeats 8000000
/-! k03: keys with unlike levels, where there are none -/
namespace K2
open PySem PySem.Spec PyProof.Rows L2 EL LW ND
open Ln (L isWord isSign isTok)
open PySem.EV (ErrC ErrI)
abbrev Lv := List (NestedKey × Int)
def kvI (m : Lv) : List (NestedKey × V) := m.map fun q => (q.1, V.int q.2)
theorem kvI_at (k : NestedKey) : ∀ m : Lv, atN (kvI m) k = none ∨ ∃ i, (k, i) ∈ m ∧ atN (kvI m) k = some (.int i)
  | [] => .inl rfl
  | q :: m => by
    have hc : atN (kvI (q :: m)) k = if q.1 = k then some (.int q.2) else atN (kvI m) k := by
      show ((((q.1, V.int q.2) :: kvI m).find? fun kv => decide (kv.1 = k)).map (·.2)) = _
      rw [List.find?_cons]
      by_cases c : q.1 = k
      · rw [if_pos c]
        simp only [decide_eq_true c]
        rfl
      · rw [if_neg c]
        simp only [decide_eq_false c]
        rfl
    rw [hc]
    by_cases c : q.1 = k
    · rw [if_pos c]
      exact .inr ⟨q.2, by rw [← c]; exact List.mem_cons_self, rfl⟩
    · rw [if_neg c]
      rcases kvI_at k m with h | ⟨i, h1, h2⟩
      · exact .inl h
      · exact .inr ⟨i, List.mem_cons_of_mem _ h1, h2⟩
theorem tupS_ext {H : Hp} {d : Addr} {φ0 φ : Heap → Prop} (e : H d = some (.ext φ0)) : TupS H (upd H d (.ext φ)) := fun x vs h => by
  rcases h with h | ⟨o, h⟩
  · exact .inl (by rw [upd_ne (fun z => by rw [z, e] at h; cases h)]; exact h)
  · exact .inr ⟨o, by rw [upd_ne (fun z => by rw [z, e] at h; cases h)]; exact h⟩
/-- all keys with their levels -/
def allLv (fs : List Fm) : Lv := fs.flatMap keyLevs
def LvOk (fs : List Fm) : Prop := ∀ k i j, (k, i) ∈ allLv fs → (k, j) ∈ allLv fs → i = j
theorem holeN_depth (p : List Str) (i : Nat) : (holeN p i).depth ≤ 8 := by
  unfold holeN
  split
  · show max (NestedKey.depth (.text tLeft)) (max (NestedKey.depth (.text (p.getD 1 hole))) 0) + 1 ≤ 8
    exact Nat.succ_le_succ (Nat.zero_le _)
  · have := plK_depth (p.take (i + 1))
    have h0 := depth_texts (p.take (i + 1))
    show max (NestedKey.depth (.text tHole)) (max (NestedKey.depthAll ((p.take (i + 1)).map NestedKey.text) + 1) 0) + 1 ≤ 8
    have e0 : NestedKey.depth (.text tHole) = 0 := rfl
    rw [e0]
    omega
theorem ownN_depth (p : List Str) : (ownN p).depth ≤ 8 := by
  unfold ownN
  split
  · exact Nat.succ_le_succ (Nat.zero_le _)
  · exact Nat.succ_le_succ (Nat.zero_le _)
theorem keysN_depth (p : List Str) : ∀ k ∈ keysN p, k.depth ≤ 8 := by
  intro k hk
  unfold keysN at hk
  rcases List.mem_cons.mp hk with rfl | hk
  · exact ownN_depth p
  · obtain ⟨i, _, rfl⟩ := List.mem_map.mp hk
    exact holeN_depth p i
theorem keyLevs_len {f : Fm} (h : FmOk f) : (keyLevs f).length ≤ 4 := by
  unfold keyLevs
  rw [List.length_zip, keysN_len]
  have := h.pat.few
  omega
theorem keyLevs_depth {f : Fm} : ∀ q ∈ keyLevs f, q.1.depth ≤ 8 := fun q hq => keysN_depth f.pat _ (List.of_mem_zip (show (q.1, q.2) ∈ _ from hq)).1
section
variable {P : Program} {w : World} {K : PySem.W.Frag} {mg : Str → Option Value} {base : Heap} {C T I : Addr}
def spUnlike (K : PySem.W.Frag) : Sp := fun vs H Q _ => ∃ (a : Addr) (xs : List V) (fs : List Fm), vs = [.ref a] ∧ SqL K H a xs ∧ Paired (FormR H) xs fs ∧ fs.length ≤ 1000 ∧ (∀ f ∈ fs, FmOk f) ∧ LvOk fs ∧ ∀ b H', Same H H' → H' b = some (.lst []) → Q (.ref b) H'
theorem ok_unlike {f fO : Addr} {fd dO : FuncData} (F : Fun K "unlike_keys" "unlike_keys" sUnlike f fd) (kO : PySem.W.keepIn K (.ref fO) = true) (GO : FnOk P w K mg base CX0 4 fO dO ["form"] spKeyLev) (bO : Binds K dO ["form"] []) (gO : mg "key_levels" = some (.ref fO)) :
    FnOk P w K mg base CX0 5 f fd ["forms"] (spUnlike K) := by
  refine F.ok scUnlike (fun vs H Q E h => ?_) (fun cdv A outer s H vs Q E hr h => ?_)
  · obtain ⟨a, xs, ps, rfl, _⟩ := h
    rfl
  · obtain ⟨a, xs, fs, rfl, hS, hp, hz, hok, hn, q⟩ := h
    have nd := scUnlike.nd
    have hu9 : (A.deeper (envOfC "unlike_keys" (defScope sUnlike) s.heap.objs.size f cdv)).units + 9 < cLine := by have := hr.un; omega
    refine ⟨_, pss_cons (ps_set (i := 1) nd rfl (.inl rfl) pe_newN) (pss_cons (ps_set (i := 2) nd rfl (.inl rfl) (pe_lst pa_nil))
      (pss_cons (ps_for PassesOwn.never rfl (pi_list (pv 0)) (pg_name (i := 3) nd rfl (.inl rfl))
        (pss_one (ps_for PassesOwn.never rfl (pi_list (pe_call GO hr (by rfl) gO kO bO .nil pass0 (pa_cons (pv 3) pa_nil))) (pg_tup (by rfl) (pgs_cons (pg_name (i := 4) nd rfl (.inl rfl)) (pgs_cons (pg_name (i := 5) nd rfl (.inl rfl)) pgs_nil)))
          (pss_one (ps_if (pt_cmpR op_ne (pe_dm PySem.F.slot_dict_setdefault PySem.F.type_dict_setdefault (mt_setdefault hu9) (pv 1) (pa_cons (pv 4) (pa_cons (pv 5) pa_nil))) (pv 5) (nomark _))
            (pss_one (ps_expr (pe_bm PySem.F.plainAttrs_list PySem.F.slot_list_append PySem.F.type_list_append mt_append (pv 2) (pa_cons (pv 4) pa_nil)))) pss_nil)))))
      (pss_one (ps_ret (pv 2))))), ?_⟩
    have hx := pairs_len hp
    refine fun d φ nd0 hD => ?_
    refine ⟨Nat.zero_le _, fun D nD => ?_⟩
    have nDd : D ≠ d := fun z => by rw [z, upd_same] at nD; cases nD
    have nD0 : H D = none := by rw [upd_ne nDd] at nD; exact nD
    have s0 : Same H (upd (upd H d (.ext φ)) D (.lst [])) := same_over nD0 (same_upd nd0)
    refine ⟨.ref a, rfl, a, rfl, ⟨_, SqL.same s0 hS⟩, for_list (xs := xs) (fun i σ H' => Same H H' ∧ H' D = some (.lst []) ∧ (∃ m : Lv, DN P w H' d (kvI m) ∧ m.length ≤ 4 * i ∧ ∀ q ∈ m, q ∈ allLv fs) ∧ ∃ y3 y4 y5 : Option V, σ = [some (.ref a), some (.ref d), some (.ref D), y3, y4, y5])
      ⟨s0, upd_same, ⟨[], hD.same (same_upd nD), Nat.zero_le _, fun q hq => by cases hq⟩, none, none, none, rfl⟩ (fun i σ H' _ h => SqL.same h.1 hS) ?_ ?_⟩
    · rintro i x σ H1 hxi ⟨s1, eD, ⟨m, hDm, ml, mi⟩, y3, y4, y5, rfl⟩
      obtain ⟨fm, hfi, hfm⟩ := prs_get hp hxi
      have hfo := hok fm (List.mem_of_getElem? hfi)
      have hi : i < fs.length := (List.getElem?_eq_some_iff.mp hfi).1
      refine ⟨_, rfl, x, fm, rfl, hfm.keep (TupS.of s1), hfo, fun b ts H2 s2 eb hk => ?_⟩
      have l4 := keyLevs_len hfo
      have hkl := pairs_len hk
      have inAll : ∀ q ∈ keyLevs fm, q ∈ allLv fs := fun q hq => List.mem_flatMap.mpr ⟨fm, List.mem_of_getElem? hfi, hq⟩
      refine ⟨b, rfl, ⟨_, SqL.of eb⟩, for_list (xs := ts) (fun j σ H' => Same H H' ∧ H' D = some (.lst []) ∧ H' b = some (.lst ts) ∧ KlAll H' ts (keyLevs fm) ∧ (∃ m : Lv, DN P w H' d (kvI m) ∧ m.length ≤ 4 * i + j ∧ ∀ q ∈ m, q ∈ allLv fs) ∧ ∃ y4 y5 : Option V, σ = [some (.ref a), some (.ref d), some (.ref D), some x, y4, y5])
        ⟨s1.trans s2, s2 _ _ eD, eb, hk, ⟨m, hDm.same s2, ml, mi⟩, y4, y5, rfl⟩ (fun j σ H' _ h => SqL.of h.2.2.1) ?_ ?_⟩
      · rintro j y σ H3 hyj ⟨s3, eD3, eb3, hk3, ⟨m3, hD3, ml3, mi3⟩, z4, z5, rfl⟩
        obtain ⟨⟨key, lev⟩, hqj, ta, ka, rfl, htup, hkey⟩ := prs_get hk3 hyj
        have hj := (List.getElem?_eq_some_iff.mp hqj).1
        have hmem := inAll _ (List.mem_of_getElem? hqj)
        refine ⟨ta, _, rfl, .inl htup, rfl, _, _, rfl, _, _, rfl, rfl, ?_⟩
        have hlen : (kvI m3).length = m3.length := List.length_map ..
        have hdep := keyLevs_depth _ (List.mem_of_getElem? hqj)
        refine ⟨_, rfl, ⟨d, _, rfl, hD3⟩, _, rfl, _, rfl, ?_⟩
        show tNil _ _ _
        unfold tNil
        show rDefN P w (.ref d) [.ref ka, .int lev] H3 _
        refine ⟨d, ka, key, kvI m3, .int lev, rfl, rfl, hD3, hkey, hdep, by rw [hlen]; omega, fun z hz => ?_, fun hz φ2 hD4 => ?_⟩
        · rcases kvI_at key m3 with h | ⟨i2, h1, h2⟩
          · rw [h] at hz
            cases hz
          · rw [h2] at hz
            cases hz
            obtain rfl := hn key _ _ (mi3 _ h1) hmem
            refine ⟨_, rfl, rfl, _, rfl, ?_⟩
            rw [decide_eq_true rfl]
            exact iteF ⟨s3, eD3, eb3, hk3, ⟨m3, hD3, by omega, mi3⟩, _, _, rfl⟩
        · obtain ⟨φ0, hd0⟩ := DN.at_ext hD3
          refine ⟨_, rfl, rfl, _, rfl, ?_⟩
          rw [decide_eq_true rfl]
          have hb : b ≠ d := fun z => by rw [z, hd0] at eb3; cases eb3
          refine iteF ⟨same_over nd0 s3, by rw [upd_ne nDd]; exact eD3, by rw [upd_ne hb]; exact eb3, klAll_keep (tupS_ext hd0) hk3, ⟨m3 ++ [(key, lev)], ?_, by rw [List.length_append, List.length_singleton]; omega, fun q hq => ?_⟩, _, _, rfl⟩
          · have e : kvI (m3 ++ [(key, lev)]) = putN (kvI m3) key (.int lev) := by
              unfold putN
              rw [hz]
              show _ = kvI m3 ++ [(key, V.int lev)]
              unfold kvI
              rw [List.map_append]
              rfl
            rw [e]
            exact hD4
          · rcases List.mem_append.mp hq with hq | hq
            · exact mi3 _ hq
            · rw [List.mem_singleton.mp hq]
              exact hmem
      · rintro σ H3 ⟨s3, eD3, eb3, hk3, ⟨m3, hD3, ml3, mi3⟩, z4, z5, rfl⟩
        exact ⟨s3, eD3, ⟨m3, hD3, by omega, mi3⟩, _, z4, z5, rfl⟩
    · rintro σ H1 ⟨s1, eD, _, y3, y4, y5, rfl⟩
      exact ⟨_, rfl, q D H1 s1 eD⟩
end
end K2

set_option Elab.async false
set_option linter.all false
set_option maxRecDepth 100000
set_option maxHeartbeats 8000000
/-! k03: beginnings that part, where there are none -/
namespace K2
open PySem PySem.Spec PyProof.Rows L2 EL LW ND
open Ln (L isWord isSign isTok)
open PySem.EV (ErrC ErrI)
theorem walkN {P : Program} {w : World} {d : Addr} {kvs : List (NestedKey × V)} {xs : List NE} {ep : Nat} : Walk (Itn P w d kvs xs ep) kvs.length (fun H => H d = some (.ext (Raw P w d xs ep)) ∧ Paired (EntN H) kvs xs) (fun i H x H' => H' = H ∧ ∃ k v a, kvs[i]? = some (k, v) ∧ x = .ref a ∧ Nk H (.ref a) k) :=
  ⟨fun i H hi h => ⟨h.1, h.2, hi⟩, fun H h => ⟨h.1, h.2, Nat.le_refl _⟩, fun i H x H' hi h y => y⟩
theorem keys_same {H : Hp} : ∀ {kvs : List (NestedKey × V)} {xs : List NE}, Paired (EntN H) kvs xs → kvs.map (·.1) = xs.map (·.1)
  | _, _, .nil => rfl
  | _, _, .cons a t => by
    rw [List.map_cons, List.map_cons, keys_same t, a.1]
theorem DN.nodup {P : Program} {w : World} {H : Hp} {d : Addr} {kvs : List (NestedKey × V)} : DN P w H d kvs → (kvs.map (·.1)).Nodup := fun ⟨xs, ep, a, b, c, e⟩ => by rw [keys_same b]; exact c
theorem atN_get : ∀ {kvs : List (NestedKey × V)} {i : Nat} {k : NestedKey} {v : V}, (kvs.map (·.1)).Nodup → kvs[i]? = some (k, v) → atN kvs k = some v
  | [], i, k, v, _, h => by simp at h
  | kv :: kvs, 0, k, v, _, h => by
    obtain rfl := Option.some.inj h
    unfold atN
    rw [List.find?_cons]
    simp
  | kv :: kvs, i + 1, k, v, nd, h => by
    rw [List.map_cons, List.nodup_cons] at nd
    have h' : kvs[i]? = some (k, v) := by simpa using h
    have ih := atN_get nd.2 h'
    have ne : kv.1 ≠ k := fun z => nd.1 (z ▸ List.mem_map.mpr ⟨_, List.mem_of_getElem? h', rfl⟩)
    unfold atN
    rw [List.find?_cons]
    simp only [decide_eq_false ne]
    exact ih
theorem kvF_get {m : Fol} {las : List Addr} {i : Nat} {k : NestedKey} {v : V} (h : (kvF m las)[i]? = some (k, v)) : ∃ q la, m[i]? = some q ∧ las[i]? = some la ∧ k = plK q.1 ∧ v = .ref la := by
  unfold kvF at h
  rw [List.getElem?_zipWith] at h
  cases e1 : m[i]? with
  | none => rw [e1] at h; simp at h
  | some q =>
    cases e2 : las[i]? with
    | none => rw [e1, e2] at h; simp at h
    | some la =>
      rw [e1, e2] at h
      have := Option.some.inj h
      cases this
      exact ⟨q, la, rfl, rfl, rfl, rfl⟩
theorem ls_get {H0 H : Hp} : ∀ {las : List Addr} {m : Fol} {i : Nat} {la : Addr} {q : List Str × List Str}, Paired (LsAt H0 H) las m → las[i]? = some la → m[i]? = some q → LsAt H0 H la q
  | _, _, 0, la, q, .cons a _, h1, h2 => by
    obtain rfl := Option.some.inj h1
    obtain rfl := Option.some.inj h2
    exact a
  | _, _, i + 1, la, q, .cons _ t, h1, h2 => ls_get (i := i) t (by simpa using h1) (by simpa using h2)
  | _, _, _, _, _, .nil, h1, _ => by simp at h1
def ParOk (ps : List (List Str)) : Prop := ∀ q ∈ folOf ps, hole ∈ q.2 → ∀ x ∈ q.2, x = hole
theorem inV_strs (x : Str) (xs : List Str) : inV (.str x) (xs.map V.str) = decide (x ∈ xs) := by
  unfold inV
  rw [List.any_map, Bool.eq_iff_iff, decide_eq_true_iff, List.any_eq_true]
  refine ⟨fun ⟨y, hy, e⟩ => ?_, fun h => ⟨x, h, ?_⟩⟩
  · have : y = x := by simpa [eqV] using e
    exact this ▸ hy
  · simp [eqV]
theorem flat_strs (xs : List Str) : (xs.map V.str).all flatV = true := by
  rw [List.all_map, List.all_eq_true]
  exact fun _ _ => rfl
theorem addS_same {h : Str} : ∀ {items acc : List Str}, (∀ x ∈ items, x = h) → (∀ x ∈ acc, x = h) → acc.length ≤ 1 → (items.foldl TX.addS acc).length ≤ 1
  | [], acc, _, _, hl => hl
  | x :: items, acc, hi, ha, hl => by
    rw [List.foldl_cons]
    obtain rfl := hi x List.mem_cons_self
    refine addS_same (fun y hy => hi y (List.mem_cons_of_mem _ hy)) ?_ ?_
    · unfold TX.addS
      split
      · exact ha
      · intro y hy
        rcases List.mem_cons.mp hy with rfl | hy
        · rfl
        · exact ha y hy
    · unfold TX.addS
      split
      · exact hl
      · rename_i c
        match acc, ha, c with
        | [], _, _ => exact Nat.le_refl _
        | y :: _, ha, c => exact absurd (by rw [ha y List.mem_cons_self]; exact List.mem_cons_self) c
theorem boot_set : bootBuiltins (Str.ofString "set") = some (.type "set") := by decide +kernel
section
variable {P : Program} {w : World} {K : PySem.W.Frag} {mg : Str → Option Value} {base : Heap} {C T I : Addr}
theorem ok_parted {f fO : Addr} {fd dO : FuncData} {t1 : Tok} (F : Fun K "parted_beginnings" "parted_beginnings" sParted f fd) (kO : PySem.W.keepIn K (.ref fO) = true) (GO : FnOk P w K mg base CX0 1 fO dO ["patterns"] (spFoll P w K)) (bO : Binds K dO ["patterns"] []) (gO : mg "followers" = some (.ref fO))
    (mH : mg "HOLE" = some (.str hole t1)) (ml : mg "len" = none) (mse : mg "set" = none) :
    FnOk P w K mg base CX0 2 f fd ["patterns"] (spNone1 K ParOk) := by
  refine F.ok scParted (fun vs H Q E h => ?_) (fun cdv A outer s H vs Q E hr h => ?_)
  · obtain ⟨a, xs, ps, rfl, _⟩ := h
    rfl
  · obtain ⟨a, xs, ps, rfl, hS, hp, hz, hok, hn, q⟩ := h
    have nd := scParted.nd
    have hu9 : (A.deeper (envOfC "parted_beginnings" (defScope sParted) s.heap.objs.size f cdv)).units + 9 < cLine := by have := hr.un; omega
    refine ⟨_, pss_cons (ps_set (i := 1) nd rfl (.inr rfl) (pe_call GO hr (by rfl) gO kO bO .nil pass0 (pa_cons (pv 0) pa_nil)))
      (pss_one (ps_ret (pe_lc (own := [("place", 2)]) (g := gName 2) rfl nd (pi_keysN (pv 1)) (blkOk_by (own := [("place", 2)]) (N := ["patterns", "behind", "place"]) (sc := defScope sParted) (by decide +kernel)) (fun _ _ _ _ _ => pg_name (i := 2) nd rfl (Or.inl rfl))
        (fun _ _ _ _ _ => pts_one (PW.pt (pw_and (pt_cmpR (r := rIn K false) op_in_seq (pe_glob (v := .str hole) (by rfl) mH ⟨_, rfl⟩) (pe_ix (r := rGetN P w) (ix_nd hu9) (pv 1) (pv 2) (fun _ _ => rfl)) (by rfl))
          (pw_and1 (pt_cmpR op_gt (pe_callB (r := rLenX P w) cr_lenX (by rfl) ml PySem.boot_len (pa_cons (pe_callTy (r := rSetX K P w) (cr_setX rfl) (by rfl) mse boot_set (pa_cons (pe_ix (r := rGetN P w) (ix_nd hu9) (pv 1) (pv 2) (fun _ _ => rfl)) pa_nil)) pa_nil)) pe_int (nomark _)))))) (fun _ _ _ _ _ => pv 2)))), ?_⟩
    refine ⟨_, rfl, a, xs, ps, rfl, hS, hp, by omega, hok, fun d H1 F1 => ?_⟩
    obtain ⟨las, hD, hnd, hls⟩ := F1.ex
    refine ⟨_, rfl, d, _, rfl, hD, fun xs' ep e1 hp1 D nD => ?_⟩
    have hnd2 := DN.nodup hD
    refine lc_it walkN (fun i H' => Same H1 H' ∧ H' D = some (.lst [])) ⟨same_upd nD, upd_same⟩ (fun i H' _ h => ⟨h.1 _ _ e1, ents_keep (TupS.of h.1) hp1⟩) ?_ ?_
    · rintro i x H2 H2' hi ⟨s2, eD⟩ ⟨rfl, k, v, a2, hk, rfl, hNk⟩
      obtain ⟨q0, la, hm, hla, rfl, rfl⟩ := kvF_get hk
      have hget := atN_get hnd2 hk
      have hq0 := ls_get hls hla hm
      have hq2 := s2 _ _ hq0.2
      have hD2 := hD.same s2
      have hq0m := List.mem_of_getElem? hm
      have hlen := F1.lens q0 hq0m
      refine ⟨rfl, _, rfl, _, rfl, d, a2, plK q0.1, _, .ref la, rfl, rfl, hD2, hNk, plK_depth _, hget, ?_⟩
      refine ⟨la, _, rfl, .inl (SqL.of hq2), rfl, flat_strs _, _, rfl, ?_⟩
      rw [if_neg (show ¬ (false = true) from Bool.false_ne_true), inV_strs]
      by_cases c : hole ∈ q0.2
      · rw [decide_eq_true c]
        have hall := hn q0 hq0m c
        have h1 := addS_same (h := hole) (items := q0.2) (acc := []) hall (fun x hx => by cases hx) (Nat.zero_le _)
        refine iteT ⟨_, rfl, _, rfl, d, a2, plK q0.1, _, .ref la, rfl, rfl, hD2, hNk, plK_depth _, hget, ?_⟩
        refine ⟨la, q0.2, rfl, SqL.of hq2, by omega, fun t nt => ?_⟩
        refine ⟨t, _, rfl, upd_same, by omega, _, _, rfl, rfl, _, rfl, ?_⟩
        rw [decide_eq_false (by omega)]
        exact iteF ⟨s2.trans (same_upd nt), same_upd nt _ _ eD⟩
      · rw [decide_eq_false c]
        exact iteF (iteF ⟨s2, eD⟩)
    · rintro H2 ⟨s2, eD⟩
      exact q D H2 (F1.same.trans s2) eD
end
end K2

set_option Elab.async false
set_option linter.all false
set_option maxRecDepth 100000
set_option maxHeartbeats 8000000
/-! k03: tails in the middle, hard words nowhere, soft words alone: where there are none -/
namespace K2
open PySem PySem.Spec PyProof.Rows L2 EL LW ND
open Ln (L isWord isSign isTok)
open PySem.EV (ErrC ErrI)
def TmOk (ps : List (List Str)) : Prop := ∀ t ∈ tailsM ps, t ∉ midsM ps
def HnOk (ps : List (List Str)) (hard : List Str) : Prop := ∀ t ∈ hard, t ∈ firstsM ps
def SaOk (ps : List (List Str)) (hard : List Str) : Prop := ∀ p ∈ ps, p.length = 1 → isWord (cp (p.getD 0 hole)) = true → p.getD 0 hole ∈ hard
theorem get_strs {l : List Str} {i : Nat} {x : V} (h : (l.map V.str)[i]? = some x) : ∃ z, l[i]? = some z ∧ x = .str z := by
  rw [List.getElem?_map] at h
  obtain ⟨z, hz, rfl⟩ := Option.map_eq_some_iff.mp h
  exact ⟨z, hz, rfl⟩
section
variable {P : Program} {w : World} {K : PySem.W.Frag} {mg : Str → Option Value} {base : Heap} {C T I : Addr}
theorem ok_tailmid {f fM fT : Addr} {fd dM dT : FuncData} (F : Fun K "tails_in_the_middle" "tails_in_the_middle" sTailMid f fd) (kM : PySem.W.keepIn K (.ref fM) = true) (GM : FnOk P w K mg base CX0 2 fM dM ["patterns"] (spSel K midsM)) (bM : Binds K dM ["patterns"] []) (gM : mg "middle_tokens" = some (.ref fM))
    (kT : PySem.W.keepIn K (.ref fT) = true) (GT : FnOk P w K mg base CX0 2 fT dT ["patterns"] (spSel K tailsM)) (bT : Binds K dT ["patterns"] []) (gT : mg "tail_tokens" = some (.ref fT)) :
    FnOk P w K mg base CX0 3 f fd ["patterns"] (spNone1 K TmOk) := by
  refine F.ok scTailMid (fun vs H Q E h => ?_) (fun cdv A outer s H vs Q E hr h => ?_)
  · obtain ⟨a, xs, ps, rfl, _⟩ := h
    rfl
  · obtain ⟨a, xs, ps, rfl, hS, hp, hz, hok, hn, q⟩ := h
    have nd := scTailMid.nd
    refine ⟨_, pss_cons (ps_set (i := 1) nd rfl (.inr rfl) (pe_call GM hr (by rfl) gM kM bM .nil pass0 (pa_cons (pv 0) pa_nil)))
      (pss_one (ps_ret (pe_lc (own := [("token", 2)]) (g := gName 2) rfl nd (pi_list (pe_call GT hr (by rfl) gT kT bT .nil pass0 (pa_cons (pv 0) pa_nil))) (blkOk_by (own := [("token", 2)]) (N := ["patterns", "middles", "token"]) (sc := defScope sTailMid) (by decide +kernel)) (fun _ _ _ _ _ => pg_name (i := 2) nd rfl (Or.inl rfl))
        (fun _ _ _ _ _ => pts_one (pt_cmpR (r := rIn K false) op_in_seq (pv 2) (pv 1) (by rfl))) (fun _ _ _ _ _ => pv 2)))), ?_⟩
    refine ⟨_, rfl, a, xs, ps, rfl, hS, hp, by omega, hok, fun m H1 s1 em => ?_⟩
    refine ⟨_, rfl, a, xs, ps, rfl, SqL.same s1 hS, prs_keep (fun h => h.keep (TupS.of s1)) hp, by omega, hok, fun b H2 s2 eb => ?_⟩
    refine ⟨b, rfl, ⟨_, SqL.of eb⟩, fun D nD => ?_⟩
    refine lc_list (xs := (tailsM ps).map V.str) (fun i H' => Same H2 H' ∧ H' D = some (.lst [])) ⟨same_upd nD, upd_same⟩ (fun i H' _ h => SqL.of (h.1 _ _ eb)) ?_ ?_
    · rintro i x H3 hxi ⟨s3, eD⟩
      obtain ⟨z, hz2, rfl⟩ := get_strs hxi
      refine ⟨rfl, _, rfl, _, rfl, m, _, rfl, .inl (SqL.of (s3 _ _ (s2 _ _ em))), rfl, flat_strs _, _, rfl, ?_⟩
      rw [if_neg (show ¬ (false = true) from Bool.false_ne_true), inV_strs, decide_eq_false (hn z (List.mem_of_getElem? hz2))]
      exact iteF ⟨s3, eD⟩
    · rintro H3 ⟨s3, eD⟩
      exact q D H3 ((s1.trans s2).trans s3) eD
def spNone2 (K : PySem.W.Frag) (ok : List (List Str) → List Str → Prop) : Sp := fun vs H Q _ => ∃ (a c : Addr) (xs : List V) (ps : List (List Str)) (hard : List Str), vs = [.ref a, .ref c] ∧ SqL K H a xs ∧ Paired (PatR H) xs ps ∧ ps.length ≤ 100 ∧ (∀ p ∈ ps, PatOk p) ∧ SqL K H c (hard.map V.str) ∧ ok ps hard ∧ ∀ b H', Same H H' → H' b = some (.lst []) → Q (.ref b) H'
theorem ok_hardno {f fM : Addr} {fd dM : FuncData} (F : Fun K "hard_nowhere" "hard_nowhere" sHardNo f fd) (kM : PySem.W.keepIn K (.ref fM) = true) (GM : FnOk P w K mg base CX0 2 fM dM ["patterns"] (spSel K firstsM)) (bM : Binds K dM ["patterns"] []) (gM : mg "first_tokens" = some (.ref fM)) :
    FnOk P w K mg base CX0 3 f fd ["patterns", "hard"] (spNone2 K HnOk) := by
  refine F.ok scHardNo (fun vs H Q E h => ?_) (fun cdv A outer s H vs Q E hr h => ?_)
  · obtain ⟨a, c, xs, ps, hard, rfl, _⟩ := h
    rfl
  · obtain ⟨a, c, xs, ps, hard, rfl, hS, hp, hz, hok, hC, hn, q⟩ := h
    have nd := scHardNo.nd
    refine ⟨_, pss_cons (ps_set (i := 2) nd rfl (.inr rfl) (pe_call GM hr (by rfl) gM kM bM .nil pass0 (pa_cons (pv 0) pa_nil)))
      (pss_one (ps_ret (pe_lc (own := [("word", 3)]) (g := gName 3) rfl nd (pi_list (pv 1)) (blkOk_by (own := [("word", 3)]) (N := ["patterns", "hard", "first", "word"]) (sc := defScope sHardNo) (by decide +kernel)) (fun _ _ _ _ _ => pg_name (i := 3) nd rfl (Or.inl rfl))
        (fun _ _ _ _ _ => pts_one (pt_cmpR (r := rIn K true) op_notIn_seq (pv 3) (pv 2) (by rfl))) (fun _ _ _ _ _ => pv 3)))), ?_⟩
    refine ⟨_, rfl, a, xs, ps, rfl, hS, hp, by omega, hok, fun m H1 s1 em => ?_⟩
    refine ⟨_, rfl, c, rfl, ⟨_, SqL.same s1 hC⟩, fun D nD => ?_⟩
    refine lc_list (xs := hard.map V.str) (fun i H' => Same H1 H' ∧ H' D = some (.lst [])) ⟨same_upd nD, upd_same⟩ (fun i H' _ h => SqL.same (s1.trans h.1) hC) ?_ ?_
    · rintro i x H3 hxi ⟨s3, eD⟩
      obtain ⟨z, hz2, rfl⟩ := get_strs hxi
      refine ⟨rfl, _, rfl, _, rfl, m, _, rfl, .inl (SqL.of (s3 _ _ em)), rfl, flat_strs _, _, rfl, ?_⟩
      rw [if_pos rfl, inV_strs, decide_eq_true (hn z (List.mem_of_getElem? hz2))]
      exact iteF ⟨s3, eD⟩
    · rintro H3 ⟨s3, eD⟩
      exact q D H3 (s1.trans s3) eD
theorem ok_softal {f fW : Addr} {fd dW : FuncData} (F : Fun K "soft_alone" "soft_alone" sSoftAl f fd) (kW : PySem.W.keepIn K (.ref fW) = true) (GW : FnOk P w K mg base CX0 2 fW dW ["value"] (spTok K isWord)) (bW : Binds K dW ["value"] []) (gW : mg "is_word" = some (.ref fW)) (ml : mg "len" = none) :
    FnOk P w K mg base CX0 3 f fd ["patterns", "hard"] (spNone2 K SaOk) := by
  refine F.ok scSoftAl (fun vs H Q E h => ?_) (fun cdv A outer s H vs Q E hr h => ?_)
  · obtain ⟨a, c, xs, ps, hard, rfl, _⟩ := h
    rfl
  · obtain ⟨a, c, xs, ps, hard, rfl, hS, hp, hz, hok, hC, hn, q⟩ := h
    have nd := scSoftAl.nd
    refine ⟨_, pss_cons (ps_setLc (i := 2) (own := [("pattern", 3)]) (g := gName 3) rfl nd rfl rfl (sw_true rfl rfl rfl (by decide +kernel)) (pi_list (pv 0)) (blkOk_by (own := [("pattern", 3)]) (N := ["patterns", "hard", "alone", "pattern", "word"]) (sc := defScope sSoftAl) (by decide +kernel)) (fun _ _ _ _ _ => pg_name (i := 3) nd rfl (Or.inl rfl))
        (fun _ _ _ _ _ => pts_one (pt_cmpR op_eq (pe_callB (r := fun xs H Q => ∃ p ys, xs = [V.ref p] ∧ (SqL K H p ys ∨ SqT K H p ys) ∧ Q (V.int ys.length) H) call_len_seq (by rfl) ml PySem.boot_len (pa_cons (pv 3) pa_nil)) pe_int (nomark _))) (fun _ _ _ _ _ => pe_ix (r := rIxT K) ix_tup (pv 3) pe_int (fun _ _ => rfl)))
      (pss_one (ps_ret (pe_lc (own := [("word", 4)]) (g := gName 4) rfl nd (pi_list (pv 2)) (blkOk_by (own := [("word", 4)]) (N := ["patterns", "hard", "alone", "pattern", "word"]) (sc := defScope sSoftAl) (by decide +kernel)) (fun _ _ _ _ _ => pg_name (i := 4) nd rfl (Or.inl rfl))
        (fun _ _ _ _ _ => pts_one (PW.pt (pw_and (pt_val (pe_call GW hr (by rfl) gW kW bW .nil pass0 (pa_cons (pv 4) pa_nil))) (pw_and1 (pt_cmpR (r := rIn K true) op_notIn_seq (pv 4) (pv 1) (by rfl)))))) (fun _ _ _ _ _ => pv 4)))), ?_⟩
    have hx := pairs_len hp
    refine ⟨_, rfl, a, rfl, ⟨_, hS⟩, fun D nD => ?_⟩
    refine lc_list (xs := xs) (fun i H' => Same H H' ∧ ∃ l : List Str, H' D = some (.lst (l.map V.str)) ∧ l.length ≤ i ∧ ∀ z ∈ l, z.length ≤ 8 ∧ (isWord (cp z) = true → z ∈ hard)) ⟨same_upd nD, [], upd_same, Nat.le_refl _, fun z hz => by cases hz⟩ (fun i H' _ h => SqL.same h.1 hS) ?_ ?_
    · rintro i x H1 hxi ⟨s1, l, eD, hl, hall⟩
      obtain ⟨p, hpi, ap, rfl, hap⟩ := prs_get hp hxi
      have hpo := hok p (List.mem_of_getElem? hpi)
      have hap1 := rd_same s1 hap
      have hll : (p.map V.str).length = p.length := List.length_map ..
      have hi := (List.getElem?_eq_some_iff.mp hpi).1
      refine ⟨rfl, _, rfl, ap, _, rfl, .inr (.inl hap1), rfl, _, rfl, ?_⟩
      rw [hll]
      by_cases c1 : p.length = 1
      · rw [show decide (V.int (p.length : Int) = V.int 1) = true from decide_eq_true (by rw [c1]; rfl)]
        refine iteT ⟨_, rfl, ap, _, _, _, rfl, rfl, .inl hap1, at_str p 0 (by omega), _, eD, sz _ (by rw [List.length_map]; omega), same_over nD s1, l ++ [p.getD 0 hole], ?_, by rw [List.length_append, List.length_singleton]; omega, fun z hz => ?_⟩
        · rw [upd_same, List.map_append]
          rfl
        · rcases List.mem_append.mp hz with hz | hz
          · exact hall z hz
          · rw [List.mem_singleton.mp hz]
            have hm : p.getD 0 hole ∈ p := by
              rw [List.getD_eq_getElem?_getD, List.getElem?_eq_getElem (by omega)]
              exact List.getElem_mem _
            exact ⟨(hpo.item _ hm).1, hn p (List.mem_of_getElem? hpi) c1⟩
      · rw [show decide (V.int (p.length : Int) = V.int 1) = false from decide_eq_false (fun z => c1 (by injection z with z; omega))]
        exact iteF ⟨s1, l, eD, by omega, hall⟩
    · rintro H1 ⟨s1, l, eD, hl, hall⟩
      refine ⟨_, rfl, D, rfl, ⟨_, SqL.of eD⟩, fun D2 nD2 => ?_⟩
      refine lc_list (xs := l.map V.str) (fun i H' => Same H1 H' ∧ H' D2 = some (.lst [])) ⟨same_upd nD2, upd_same⟩ (fun i H' _ h => SqL.of (h.1 _ _ eD)) ?_ ?_
      · rintro i x H3 hxi ⟨s3, eD2⟩
        obtain ⟨z, hz2, rfl⟩ := get_strs hxi
        obtain ⟨hz8, hzh⟩ := hall z (List.mem_of_getElem? hz2)
        refine ⟨rfl, _, rfl, _, rfl, .inl ⟨z, rfl, by omega⟩, fun H4 s4 => ⟨_, rfl, ?_⟩⟩
        have hof : ofS isWord (.str z) = isWord (cp z) := rfl
        rw [hof]
        by_cases cw : isWord (cp z) = true
        · rw [cw]
          refine iteT ⟨_, rfl, _, rfl, c, _, rfl, .inl (SqL.same ((s1.trans s3).trans s4) hC), rfl, flat_strs _, _, rfl, ?_⟩
          rw [if_pos rfl, inV_strs, decide_eq_true (hzh cw)]
          exact iteF ⟨s3.trans s4, s4 _ _ eD2⟩
        · rw [show isWord (cp z) = false from by simpa using cw]
          exact iteF (iteF ⟨s3.trans s4, s4 _ _ eD2⟩)
      · rintro H3 ⟨s3, eD2⟩
        exact q D2 H3 (s1.trans s3) eD2
end
end K2

set_option Elab.async false
set_option linter.all false
set_option maxRecDepth 100000
set_option maxHeartbeats 8000000
/-! k03: sound forms and hard words have no clash -/
namespace K2
open PySem PySem.Spec PyProof.Rows L2 EL LW ND
open Ln (L isWord isSign isTok)
open PySem.EV (ErrC ErrI)
def patsOf (fs : List Fm) : List (List Str) := fs.map (·.pat)
structure Sound (fs : List Fm) (hard : List Str) : Prop where
  few : fs.length ≤ 100
  form : ∀ f ∈ fs, FmOk f
  twice : (patsOf fs).Nodup
  level : LvOk fs
  branch : ParOk (patsOf fs)
  both : TmOk (patsOf fs)
  words : HnOk (patsOf fs) hard
  soft : SaOk (patsOf fs) hard
/-- a pair of a word and an empty list -/
def CulAt (H : Hp) (x : V) : Prop := ∃ t k b, x = .ref t ∧ H t = some (.tup [.str k, .ref b]) ∧ H b = some (.lst [])
theorem CulAt.same {H H' : Hp} (s : Same H H') {x : V} : CulAt H x → CulAt H' x := fun ⟨t, k, b, e, h1, h2⟩ => ⟨t, k, b, e, s _ _ h1, s _ _ h2⟩
section
variable {P : Program} {w : World} {K : PySem.W.Frag} {mg : Str → Option Value} {base : Heap} {C T I : Addr}
structure ClashFns (P : Program) (w : World) (K : PySem.W.Frag) (mg : Str → Option Value) (base : Heap) where
  f1 : Addr
  d1 : FuncData
  k1 : PySem.W.keepIn K (.ref f1) = true
  G1 : FnOk P w K mg base CX0 1 f1 d1 ["patterns"] (spNone1 K List.Nodup)
  b1 : Binds K d1 ["patterns"] []
  g1 : mg "doubled" = some (.ref f1)
  f2 : Addr
  d2 : FuncData
  k2 : PySem.W.keepIn K (.ref f2) = true
  G2 : FnOk P w K mg base CX0 5 f2 d2 ["forms"] (spUnlike K)
  b2 : Binds K d2 ["forms"] []
  g2 : mg "unlike_keys" = some (.ref f2)
  f3 : Addr
  d3 : FuncData
  k3 : PySem.W.keepIn K (.ref f3) = true
  G3 : FnOk P w K mg base CX0 2 f3 d3 ["patterns"] (spNone1 K ParOk)
  b3 : Binds K d3 ["patterns"] []
  g3 : mg "parted_beginnings" = some (.ref f3)
  f4 : Addr
  d4 : FuncData
  k4 : PySem.W.keepIn K (.ref f4) = true
  G4 : FnOk P w K mg base CX0 3 f4 d4 ["patterns"] (spNone1 K TmOk)
  b4 : Binds K d4 ["patterns"] []
  g4 : mg "tails_in_the_middle" = some (.ref f4)
  f5 : Addr
  d5 : FuncData
  k5 : PySem.W.keepIn K (.ref f5) = true
  G5 : FnOk P w K mg base CX0 3 f5 d5 ["patterns", "hard"] (spNone2 K HnOk)
  b5 : Binds K d5 ["patterns", "hard"] []
  g5 : mg "hard_nowhere" = some (.ref f5)
  f6 : Addr
  d6 : FuncData
  k6 : PySem.W.keepIn K (.ref f6) = true
  G6 : FnOk P w K mg base CX0 3 f6 d6 ["patterns", "hard"] (spNone2 K SaOk)
  b6 : Binds K d6 ["patterns", "hard"] []
  g6 : mg "soft_alone" = some (.ref f6)
def spLeast (K : PySem.W.Frag) : Sp := fun vs H Q _ => ∃ (a c : Addr) (xs : List V) (fs : List Fm) (hard : List Str), vs = [.ref a, .ref c] ∧ SqL K H a xs ∧ Paired (FormR H) xs fs ∧ SqL K H c (hard.map V.str) ∧ Sound fs hard ∧ ∀ H', Same H H' → Q .non H'
theorem ok_least {f : Addr} {fd : FuncData} (F : Fun K "least_clash" "least_clash" sLeast f fd) (Z : ClashFns P w K mg base) :
    FnOk P w K mg base CX0 6 f fd ["forms", "hard"] (spLeast K) := by
  refine F.ok scLeast (fun vs H Q E h => ?_) (fun cdv A outer s H vs Q E hr h => ?_)
  · obtain ⟨a, c, xs, ps, hard, rfl, _⟩ := h
    rfl
  · obtain ⟨a, c, xs, fs, hard, rfl, hS, hp, hC, hso, q⟩ := h
    have nd := scLeast.nd
    have r1 := hr.mono (by decide : 1 ≤ 5)
    have r2 := hr.mono (by decide : 2 ≤ 5)
    have r3 := hr.mono (by decide : 3 ≤ 5)
    refine ⟨_, pss_cons (ps_setLc (i := 2) (own := [("form", 6)]) (g := gName 6) (tt := tYes) rfl nd rfl rfl (sw_true rfl rfl rfl (by decide +kernel)) (pi_list (pv 0)) (blkOk_by (own := [("form", 6)]) (N := ["forms", "hard", "patterns", "found", "kind", "culprits", "form"]) (sc := defScope sLeast) (by decide +kernel)) (fun _ _ _ _ _ => pg_name (i := 6) nd rfl (Or.inl rfl))
        (fun _ _ _ _ _ => pts_nil) (fun _ _ _ _ _ => pe_ix (r := rIxT K) ix_tup (pv 6) pe_int (fun _ _ => rfl)))
      (pss_cons (ps_set (i := 3) nd rfl (.inl rfl) (pe_lst (pa_cons (pe_tup (pa_cons pe_str (pa_cons (pe_call Z.G1 r1 (by rfl) Z.g1 Z.k1 Z.b1 .nil pass0 (pa_cons (pv 2) pa_nil)) pa_nil)))
        (pa_cons (pe_tup (pa_cons pe_str (pa_cons (pe_call Z.G2 hr (by rfl) Z.g2 Z.k2 Z.b2 .nil pass0 (pa_cons (pv 0) pa_nil)) pa_nil)))
        (pa_cons (pe_tup (pa_cons pe_str (pa_cons (pe_call Z.G3 r2 (by rfl) Z.g3 Z.k3 Z.b3 .nil pass0 (pa_cons (pv 2) pa_nil)) pa_nil)))
        (pa_cons (pe_tup (pa_cons pe_str (pa_cons (pe_call Z.G4 r3 (by rfl) Z.g4 Z.k4 Z.b4 .nil pass0 (pa_cons (pv 2) pa_nil)) pa_nil)))
        (pa_cons (pe_tup (pa_cons pe_str (pa_cons (pe_call Z.G5 r3 (by rfl) Z.g5 Z.k5 Z.b5 .nil pass0 (pa_cons (pv 2) (pa_cons (pv 1) pa_nil))) pa_nil)))
        (pa_cons (pe_tup (pa_cons pe_str (pa_cons (pe_call Z.G6 r3 (by rfl) Z.g6 Z.k6 Z.b6 .nil pass0 (pa_cons (pv 2) (pa_cons (pv 1) pa_nil))) pa_nil))) pa_nil))))))))
      (pss_cons (ps_for PassesOwn.never rfl (pi_list (pv 3)) (pg_tup (by rfl) (pgs_cons (pg_name (i := 4) nd rfl (.inl rfl)) (pgs_cons (pg_name (i := 5) nd rfl (.inl rfl)) pgs_nil)))
        (pss_one (ps_if (pt_truth (pv 5) (fun _ => rfl)) pss_never pss_nil)))
      (pss_one (ps_ret pe_non)))), ?_⟩
    have hx := pairs_len hp
    have hfew := hso.few
    refine ⟨_, rfl, a, rfl, ⟨_, hS⟩, fun D nD => ?_⟩
    refine lc_list (xs := xs) (fun i H' => Same H H' ∧ ∃ ys, H' D = some (.lst ys) ∧ ys.length ≤ i ∧ Paired (PatR H') ys (patsOf (fs.take i))) ⟨same_upd nD, [], upd_same, Nat.le_refl _, .nil⟩ (fun i H' _ h => SqL.same h.1 hS) ?_ ?_
    · rintro i x H1 hxi ⟨s1, ys, eD, hl, hys⟩
      obtain ⟨fm, hfi, af, ap, al, rfl, h1, h2, h3⟩ := prs_get hp hxi
      have hi := (List.getElem?_eq_some_iff.mp hfi).1
      refine ⟨rfl, _, rfl, af, _, _, _, rfl, rfl, .inl (rd_same s1 h1), atI_nat (j := 0) rfl, ys, eD, sz _ (by omega), same_over nD s1, ys ++ [.ref ap], upd_same, by rw [List.length_append, List.length_singleton]; omega, ?_⟩
      obtain ⟨hi2, e⟩ := List.getElem?_eq_some_iff.mp hfi
      unfold patsOf
      rw [List.take_succ_eq_append_getElem hi2, List.map_append, e]
      exact pairs_snoc (prs_keep (fun h => h.keep (tupS_lst eD)) hys) ⟨ap, rfl, tupS_lst eD _ _ (rd_same s1 h2)⟩
    · rintro H1 ⟨s1, ys, eD, hl, hys⟩
      rw [hx, List.take_length] at hys
      have hpl : (patsOf fs).length ≤ 100 := by unfold patsOf; rw [List.length_map]; exact hfew
      have hpo : ∀ p ∈ patsOf fs, PatOk p := fun p hp => by
        obtain ⟨f, hf, rfl⟩ := List.mem_map.mp hp
        exact (hso.form f hf).pat
      have go : ∀ {H' : Hp}, Same H1 H' → SqL K H' D ys ∧ Paired (PatR H') ys (patsOf fs) := fun s => ⟨SqL.of (s _ _ eD), prs_keep (fun h => h.keep (TupS.of s)) hys⟩
      have goC : ∀ {H' : Hp}, Same H1 H' → SqL K H' c (hard.map V.str) := fun s => SqL.same (s1.trans s) hC
      obtain ⟨a1, a2⟩ := go (Same.refl _)
      refine ⟨_, rfl, D, ys, patsOf fs, rfl, a1, a2, hpl, hpo, hso.twice, fun b1 H2 s2 e2 => ⟨sz 2 (by decide), fun t1 n1 => ?_⟩⟩
      have u1 := same_upd (o := .tup [V.str "twice", V.ref b1]) n1
      have S1 := s2.trans u1
      refine ⟨_, rfl, a, xs, fs, rfl, SqL.same (s1.trans S1) hS, prs_keep (fun h => h.keep (TupS.of (s1.trans S1))) hp, by omega, hso.form, hso.level, fun b2 H3 s3 e3 => ⟨sz 2 (by decide), fun t2 n2 => ?_⟩⟩
      have u2 := same_upd (o := .tup [V.str "level", V.ref b2]) n2
      have S2 := S1.trans (s3.trans u2)
      obtain ⟨a1, a2⟩ := go S2
      refine ⟨_, rfl, D, ys, patsOf fs, rfl, a1, a2, hpl, hpo, hso.branch, fun b3 H4 s4 e4 => ⟨sz 2 (by decide), fun t3 n3 => ?_⟩⟩
      have u3 := same_upd (o := .tup [V.str "branch", V.ref b3]) n3
      have S3 := S2.trans (s4.trans u3)
      obtain ⟨a1, a2⟩ := go S3
      refine ⟨_, rfl, D, ys, patsOf fs, rfl, a1, a2, hpl, hpo, hso.both, fun b4 H5 s5 e5 => ⟨sz 2 (by decide), fun t4 n4 => ?_⟩⟩
      have u4 := same_upd (o := .tup [V.str "both", V.ref b4]) n4
      have S4 := S3.trans (s5.trans u4)
      obtain ⟨a1, a2⟩ := go S4
      refine ⟨_, rfl, _, rfl, D, c, ys, patsOf fs, hard, rfl, a1, a2, hpl, hpo, goC S4, hso.words, fun b5 H6 s6 e6 => ⟨sz 2 (by decide), fun t5 n5 => ?_⟩⟩
      have u5 := same_upd (o := .tup [V.str "hard", V.ref b5]) n5
      have S5 := S4.trans (s6.trans u5)
      obtain ⟨a1, a2⟩ := go S5
      refine ⟨_, rfl, _, rfl, D, c, ys, patsOf fs, hard, rfl, a1, a2, hpl, hpo, goC S5, hso.soft, fun b6 H7 s7 e7 => ⟨sz 2 (by decide), fun t6 n6 => ?_⟩⟩
      have u6 := same_upd (o := .tup [V.str "soft", V.ref b6]) n6
      refine ⟨sz 6 (by decide), fun L nL => ?_⟩
      have uL := same_upd (o := .lst [V.ref t1, V.ref t2, V.ref t3, V.ref t4, V.ref t5, V.ref t6]) nL
      have cul : ∀ x ∈ [V.ref t1, V.ref t2, V.ref t3, V.ref t4, V.ref t5, V.ref t6], CulAt (upd (upd H7 t6 (.tup [V.str "soft", V.ref b6])) L (.lst [V.ref t1, V.ref t2, V.ref t3, V.ref t4, V.ref t5, V.ref t6])) x := by
        intro x hx
        have T6 : Same (upd H7 t6 (.tup [V.str "soft", V.ref b6])) (upd (upd H7 t6 (.tup [V.str "soft", V.ref b6])) L (.lst [V.ref t1, V.ref t2, V.ref t3, V.ref t4, V.ref t5, V.ref t6])) := uL
        have T5 := (s7.trans u6).trans T6
        have T4 := (s6.trans u5).trans T5
        have T3 := (s5.trans u4).trans T4
        have T2 := (s4.trans u3).trans T3
        have T1 := (s3.trans u2).trans T2
        simp only [List.mem_cons, List.not_mem_nil, or_false] at hx
        rcases hx with rfl | rfl | rfl | rfl | rfl | rfl
        · exact CulAt.same T1 ⟨t1, _, b1, rfl, upd_same, u1 _ _ e2⟩
        · exact CulAt.same T2 ⟨t2, _, b2, rfl, upd_same, u2 _ _ e3⟩
        · exact CulAt.same T3 ⟨t3, _, b3, rfl, upd_same, u3 _ _ e4⟩
        · exact CulAt.same T4 ⟨t4, _, b4, rfl, upd_same, u4 _ _ e5⟩
        · exact CulAt.same T5 ⟨t5, _, b5, rfl, upd_same, u5 _ _ e6⟩
        · exact CulAt.same T6 ⟨t6, _, b6, rfl, upd_same, u6 _ _ e7⟩
      have SL := S5.trans ((s7.trans u6).trans uL)
      have eL : (upd (upd H7 t6 (.tup [V.str "soft", V.ref b6])) L (.lst [V.ref t1, V.ref t2, V.ref t3, V.ref t4, V.ref t5, V.ref t6])) L = some (.lst [V.ref t1, V.ref t2, V.ref t3, V.ref t4, V.ref t5, V.ref t6]) := upd_same
      refine ⟨_, rfl, L, rfl, ⟨_, SqL.of eL⟩, for_list (xs := [V.ref t1, V.ref t2, V.ref t3, V.ref t4, V.ref t5, V.ref t6]) (fun i σ H' => Same (upd (upd H7 t6 (.tup [V.str "soft", V.ref b6])) L (.lst [V.ref t1, V.ref t2, V.ref t3, V.ref t4, V.ref t5, V.ref t6])) H' ∧ ∃ y4 y5 y6 : Option V, σ = [some (.ref a), some (.ref c), some (.ref D), some (.ref L), y4, y5, y6]) ⟨Same.refl _, _, _, _, rfl⟩ (fun i σ H' _ h => SqL.of (h.1 _ _ eL)) ?_ ?_⟩
      · rintro i x σ H8 hxi ⟨s8, y4, y5, y6, rfl⟩
        obtain ⟨t, k, b, rfl, h1, h2⟩ := cul x (List.mem_of_getElem? hxi)
        refine ⟨t, _, rfl, .inl (.inl (s8 _ _ h1)), rfl, _, _, rfl, _, _, rfl, rfl, ?_⟩
        refine ⟨_, rfl, false, .inl ⟨[], SqL.of (s8 _ _ h2), rfl⟩, iteF ⟨s8, _, _, _, rfl⟩⟩
      · rintro σ H8 ⟨s8, y4, y5, y6, rfl⟩
        exact q H8 (s1.trans (SL.trans s8))
end
end K2

set_option Elab.async false
set_option linter.all false
set_option maxRecDepth 100000
set_option maxHeartbeats 8000000
/-! k03: what follows a place -/
namespace K2
open PySem PySem.Spec PyProof.Rows L2 EL LW ND
open Ln (L isWord isSign isTok)
open PySem.EV (ErrC ErrI)
abbrev sWhat : Stmt := topS 50
theorem scWhat : FnScope ["place", "items", "levels", "hole", "tokens", "item"] ["place", "items", "levels"] (defScope sWhat) := ⟨rfl, rfl, rfl, by decide +kernel, rfl, by decide +kernel, by decide +kernel⟩
theorem boot_sorted : bootBuiltins (Str.ofString "sorted") = some (.builtin "sorted") := by decide +kernel
theorem foldS_len : ∀ (l acc : List Str), (l.foldl TX.addS acc).length ≤ l.length + acc.length
  | [], acc => by simp
  | x :: l, acc => by
    rw [List.foldl_cons]
    have h1 := foldS_len l (TX.addS acc x)
    have h2 := TX.addS_len acc x
    rw [List.length_cons]
    omega
def hKey (pl : List Str) : NestedKey := .tup [.text tHole, plK (pl ++ [hole])]
theorem hKey_depth (pl : List Str) : (hKey pl).depth ≤ 8 := by
  have h0 := depth_texts (pl ++ [hole])
  show max (NestedKey.depth (.text tHole)) (max (NestedKey.depthAll ((pl ++ [hole]).map NestedKey.text) + 1) 0) + 1 ≤ 8
  have e0 : NestedKey.depth (.text tHole) = 0 := rfl
  rw [e0]
  omega
/-- what is told of a place -/
def WhatAt (H : Hp) (v : V) : Prop := ∃ (t : Addr) (e : Bool) (h : V) (l : Addr) (zs : List Str), v = .ref t ∧ H t = some (.tup [.bl e, h, .ref l]) ∧ (h = .non ∨ ∃ i, h = .int i) ∧ H l = some (.lst (zs.map V.str))
section
variable {P : Program} {w : World} {K : PySem.W.Frag} {mg : Str → Option Value} {base : Heap} {C T I : Addr}
def spWhat (P : Program) (w : World) (K : PySem.W.Frag) : Sp := fun vs H Q _ => ∃ (ap la d : Addr) (pl items : List Str) (m : Lv), vs = [.ref ap, .ref la, .ref d] ∧ Rd H ap (.tup (pl.map V.str)) ∧ SqL K H la (items.map V.str) ∧ items.length ≤ 1000 ∧ pl.length ≤ 1000 ∧ pl ≠ [] ∧ DN P w H d (kvI m) ∧
  (hole ∈ items → ∃ i, atN (kvI m) (hKey pl) = some (.int i)) ∧ ∀ v H', Same H H' → WhatAt H' v → Q v H'
theorem ok_what {f : Addr} {fd : FuncData} {k : Nat} {t1 : Tok} (F : Fun K "what_follows" "what_follows" sWhat f fd) (mH : mg "HOLE" = some (.str hole t1)) (ms : mg "sorted" = none) (mse : mg "set" = none) :
    FnOk P w K mg base CX0 (k + 1) f fd ["place", "items", "levels"] (spWhat P w K) := by
  refine F.ok scWhat (fun vs H Q E h => ?_) (fun cdv A outer s H vs Q E hr h => ?_)
  · obtain ⟨a, c, d, pl, items, m, rfl, _⟩ := h
    rfl
  · obtain ⟨ap, la, d, pl, items, m, rfl, hP, hI, hz, hz2, hne, hD, hh, q⟩ := h
    have nd := scWhat.nd
    have hu9 : (A.deeper (envOfC "what_follows" (defScope sWhat) s.heap.objs.size f cdv)).units + 9 < cLine := by have := hr.un; omega
    have hu3 : (A.deeper (envOfC "what_follows" (defScope sWhat) s.heap.objs.size f cdv)).units + 3 < cLine := by have := hr.un; omega
    refine ⟨_, pss_cons (ps_set (i := 3) nd rfl (.inl rfl) (pe_ifExp (pt_cmpR op_in_seq (pe_glob (v := .str hole) (by rfl) mH ⟨_, rfl⟩) (pv 1) (by rfl)) (pe_ix (ix_nd hu9) (pv 2) (pe_tup (pa_cons pe_str (pa_cons (pe_op op_catA (pv 0) (pe_tup (pa_cons (pe_glob (v := .str hole) (by rfl) mH ⟨_, rfl⟩) pa_nil))) pa_nil))) (fun _ _ => rfl)) pe_non))
      (pss_cons (ps_setLc (i := 4) (own := [("item", 5)]) (g := gName 5) rfl nd rfl rfl (sw_true rfl rfl rfl (by decide +kernel)) (pi_list (pv 1)) (blkOk_by (own := [("item", 5)]) (N := ["place", "items", "levels", "hole", "tokens", "item"]) (sc := defScope sWhat) (by decide +kernel)) (fun _ _ _ _ _ => pg_name (i := 5) nd rfl (Or.inl rfl))
        (fun _ _ _ _ _ => pts_one (pt_cmpR (r := rIn K true) op_notIn_seq (pv 5) (pe_tup (pa_cons (pe_glob (v := .str hole) (by rfl) mH ⟨_, rfl⟩) (pa_cons pe_str pa_nil))) (by rfl))) (fun _ _ _ _ _ => pv 5))
      (pss_one (ps_ret (pe_tup (pa_cons (pe_cmpR op_in_seq pe_str (pv 1) (by rfl)) (pa_cons (pv 3) (pa_cons (pe_callB (cr_sortX rfl hu3) (by rfl) ms boot_sorted (pa_cons (pe_callTy (cr_setX rfl) (by rfl) mse boot_set (pa_cons (pv 4) pa_nil)) pa_nil)) pa_nil))))))), ?_⟩
    refine ⟨_, rfl, la, _, rfl, .inl hI, rfl, flat_strs _, _, rfl, ?_⟩
    rw [if_neg (show ¬ (false = true) from Bool.false_ne_true), inV_strs]
    by_cases c : hole ∈ items
    · rw [decide_eq_true c]
      obtain ⟨i0, hi0⟩ := hh c
      refine iteT ⟨_, rfl, _, rfl, sz 1 (by decide), fun t1 n1 => ?_⟩
      have u1 := same_upd (o := .tup [V.str hole]) n1
      have hcat : pl.map V.str ++ [V.str hole] = (pl ++ [hole]).map V.str := by rw [List.map_append]; rfl
      refine ⟨ap, t1, _, _, rfl, rfl, .inl (rd_same u1 hP), SqT.of upd_same, sz _ (by rw [List.length_map]; simp; omega), fun z => absurd (List.map_eq_nil_iff.mp z) hne, fun _ z => (nomatch z), fun _ _ t2 n2 => ?_⟩
      rw [hcat]
      have u2 := same_upd (o := .tup ((pl ++ [hole]).map V.str)) n2
      refine ⟨sz 2 (by decide), fun t3 n3 => ?_⟩
      have u3 := same_upd (o := .tup [V.str (Str.ofString "hole"), V.ref t2]) n3
      refine ⟨d, t3, hKey pl, kvI m, .int i0, rfl, rfl, hD.same ((u1.trans u2).trans u3), .tup (.inl upd_same) (.cons (.text _) (.cons (.tup (.inl (u3 _ _ upd_same)) (strs_nk _)) .nil)), hKey_depth _, hi0, ?_⟩
      have s2 := (u1.trans u2).trans u3
      obtain ⟨H2, hH2⟩ : ∃ H2, H2 = upd (upd (upd H t1 (.tup [V.str hole])) t2 (.tup ((pl ++ [hole]).map V.str))) t3 (.tup [V.str (Str.ofString "hole"), V.ref t2]) := ⟨_, rfl⟩
      rw [← hH2] at s2 ⊢
      have hv : (V.int i0 = .non ∨ ∃ i, V.int i0 = .int i) := .inr ⟨_, rfl⟩
      have hI2 : SqL K H2 la (items.map V.str) := SqL.same s2 hI
      refine ⟨_, rfl, la, rfl, ⟨_, hI2⟩, fun D nD => ?_⟩
      refine lc_list (xs := items.map V.str) (fun i H' => Same H2 H' ∧ ∃ l : List Str, H' D = some (.lst (l.map V.str)) ∧ l.length ≤ i) ⟨same_upd nD, [], upd_same, Nat.le_refl _⟩ (fun i H' _ h => SqL.same h.1 hI2) ?_ ?_
      · rintro i x H3 hxi ⟨s3, l, eD, hl⟩
        obtain ⟨z, hz3, rfl⟩ := get_strs hxi
        have hi := (List.getElem?_eq_some_iff.mp hz3).1
        refine ⟨rfl, _, rfl, sz 2 (by decide), fun t nt => ⟨t, _, rfl, .inr (SqT.of upd_same), rfl, rfl, _, rfl, ?_⟩⟩
        have st := same_upd (o := .tup [V.str hole, V.str (Str.ofString "")]) nt
        rw [if_pos rfl]
        refine ite2 (fun _ => ?_) (fun _ => ⟨s3.trans st, l, st _ _ eD, by omega⟩)
        refine ⟨_, rfl, _, st _ _ eD, sz _ (by rw [List.length_map]; omega), same_over nD (s3.trans st), l ++ [z], by rw [upd_same, List.map_append]; rfl, by rw [List.length_append, List.length_singleton]; omega⟩
      · rintro H3 ⟨s3, l, eD, hl⟩
        have hl2 : l.length ≤ 1000 := by rw [List.length_map] at hl; omega
        refine ⟨_, rfl, la, _, rfl, .inl (SqL.same s3 hI2), rfl, flat_strs _, _, rfl, ?_⟩
        refine ⟨_, rfl, D, l, rfl, SqL.of eD, hl2, fun S nS => ?_⟩
        have hfl := foldS_len l []
        refine ⟨S, _, rfl, upd_same, by simp at hfl; omega, fun r zs nr pm => ⟨sz 3 (by decide), fun t nt => ?_⟩⟩
        refine q _ _ (((s2.trans s3).trans (same_upd nS)).trans ((same_upd nr).trans (same_upd nt))) ⟨t, _, _, r, _, rfl, upd_same, hv, same_upd nt _ _ upd_same⟩
    · rw [decide_eq_false c]
      refine iteF ?_
      have hv : (V.non = .non ∨ ∃ i, V.non = .int i) := .inl rfl
      have s2 := Same.refl H
      obtain ⟨H2, hH2⟩ : ∃ H2, H2 = H := ⟨_, rfl⟩
      rw [show Same H H = Same H H2 by rw [hH2]] at s2
      rw [← hH2]
      have hI2 : SqL K H2 la (items.map V.str) := SqL.same s2 hI
      refine ⟨_, rfl, la, rfl, ⟨_, hI2⟩, fun D nD => ?_⟩
      refine lc_list (xs := items.map V.str) (fun i H' => Same H2 H' ∧ ∃ l : List Str, H' D = some (.lst (l.map V.str)) ∧ l.length ≤ i) ⟨same_upd nD, [], upd_same, Nat.le_refl _⟩ (fun i H' _ h => SqL.same h.1 hI2) ?_ ?_
      · rintro i x H3 hxi ⟨s3, l, eD, hl⟩
        obtain ⟨z, hz3, rfl⟩ := get_strs hxi
        have hi := (List.getElem?_eq_some_iff.mp hz3).1
        refine ⟨rfl, _, rfl, sz 2 (by decide), fun t nt => ⟨t, _, rfl, .inr (SqT.of upd_same), rfl, rfl, _, rfl, ?_⟩⟩
        have st := same_upd (o := .tup [V.str hole, V.str (Str.ofString "")]) nt
        rw [if_pos rfl]
        refine ite2 (fun _ => ?_) (fun _ => ⟨s3.trans st, l, st _ _ eD, by omega⟩)
        refine ⟨_, rfl, _, st _ _ eD, sz _ (by rw [List.length_map]; omega), same_over nD (s3.trans st), l ++ [z], by rw [upd_same, List.map_append]; rfl, by rw [List.length_append, List.length_singleton]; omega⟩
      · rintro H3 ⟨s3, l, eD, hl⟩
        have hl2 : l.length ≤ 1000 := by rw [List.length_map] at hl; omega
        refine ⟨_, rfl, la, _, rfl, .inl (SqL.same s3 hI2), rfl, flat_strs _, _, rfl, ?_⟩
        refine ⟨_, rfl, D, l, rfl, SqL.of eD, hl2, fun S nS => ?_⟩
        have hfl := foldS_len l []
        refine ⟨S, _, rfl, upd_same, by simp at hfl; omega, fun r zs nr pm => ⟨sz 3 (by decide), fun t nt => ?_⟩⟩
        refine q _ _ (((s2.trans s3).trans (same_upd nS)).trans ((same_upd nr).trans (same_upd nt))) ⟨t, _, _, r, _, rfl, upd_same, hv, same_upd nt _ _ upd_same⟩
end
end K2

set_option Elab.async false
set_option linter.all false
set_option maxRecDepth 100000
set_option maxHeartbeats 8000000
/-! k03: forms and words that are let -/
namespace K2
open PySem PySem.Spec PyProof.Rows L2 EL LW ND
open Ln (L isWord isSign isTok)
open PySem.EV (ErrC ErrI)
abbrev sIsForm : Stmt := topS 53
abbrev sReqForms : Stmt := topS 54
abbrev sReqWords : Stmt := topS 55
abbrev sAreWords : Stmt := topS 10
abbrev sFirstCl : Stmt := topS 56
theorem scIsForm : FnScope ["value"] ["value"] (defScope sIsForm) := ⟨rfl, rfl, rfl, by decide +kernel, rfl, by decide +kernel, by decide +kernel⟩
theorem scReqForms : FnScope ["forms", "form"] ["forms"] (defScope sReqForms) := ⟨rfl, rfl, rfl, by decide +kernel, rfl, by decide +kernel, by decide +kernel⟩
theorem scAreWords : FnScope ["value", "word"] ["value"] (defScope sAreWords) := ⟨rfl, rfl, rfl, by decide +kernel, rfl, by decide +kernel, by decide +kernel⟩
theorem scReqWords : FnScope ["words"] ["words"] (defScope sReqWords) := ⟨rfl, rfl, rfl, by decide +kernel, rfl, by decide +kernel, by decide +kernel⟩
theorem scFirstCl : FnScope ["forms", "hard"] ["forms", "hard"] (defScope sFirstCl) := ⟨rfl, rfl, rfl, by decide +kernel, rfl, by decide +kernel, by decide +kernel⟩
theorem all_true {α : Type} (xs : List α) : (xs.map fun _ => true).all id = true := by
  rw [List.all_eq_true]
  intro b hb
  obtain ⟨_, _, rfl⟩ := List.mem_map.mp hb
  rfl
theorem foldS_nodup : ∀ (l acc : List Str), l.Nodup → (∀ x ∈ l, x ∉ acc) → (l.foldl TX.addS acc).length = l.length + acc.length
  | [], acc, _, _ => by simp
  | x :: l, acc, nd, h => by
    have nd2 := List.nodup_cons.mp nd
    rw [List.foldl_cons]
    have e : TX.addS acc x = x :: acc := by
      unfold TX.addS
      rw [if_neg (h x List.mem_cons_self)]
    rw [e, foldS_nodup l (x :: acc) nd2.2 fun y hy => ?_]
    · simp
      omega
    · intro z
      rcases List.mem_cons.mp z with rfl | z
      · exact nd2.1 hy
      · exact h y (List.mem_cons_of_mem _ hy) z
section
variable {P : Program} {w : World} {K : PySem.W.Frag} {mg : Str → Option Value} {base : Heap} {C T I : Addr}
theorem ok_isform {f fW : Addr} {fd dW : FuncData} (F : Fun K "is_form" "is_form" sIsForm f fd) (kW : PySem.W.keepIn K (.ref fW) = true) (GW : FnOk P w K mg base CX0 5 fW dW ["value"] spWell) (bW : Binds K dW ["value"] []) (gW : mg "is_well_formed" = some (.ref fW)) :
    FnOk P w K mg base CX0 6 f fd ["value"] spWell := by
  refine F.ok scIsForm (fun vs H Q E h => ?_) (fun cdv A outer s H vs Q E hr h => ?_)
  · obtain ⟨v, p, rfl, _⟩ := h
    rfl
  · obtain ⟨v, fm, rfl, h1, h2, q⟩ := h
    refine ⟨_, pss_one (ps_ret (pe_call GW hr (by rfl) gW kW bW .nil pass0 (pa_cons (pv 0) pa_nil))), ?_⟩
    exact ⟨v, rfl, v, fm, rfl, h1, h2, q⟩
def spReqForms : Sp := fun vs H Q _ => ∃ (a : Addr) (xs : List V) (fs : List Fm), vs = [.ref a] ∧ H a = some (.lst xs) ∧ Paired (FormAt H) xs fs ∧ fs.length ≤ 100 ∧ (∀ f ∈ fs, FmOk f) ∧ ∀ H', Same H H' → Q .non H'
theorem ok_reqforms {f fW : Addr} {fd dW : FuncData} (F : Fun K "require_forms" "require_forms" sReqForms f fd) (kW : PySem.W.keepIn K (.ref fW) = true) (GW : FnOk P w K mg base CX0 6 fW dW ["value"] spWell) (bW : Binds K dW ["value"] []) (gW : mg "is_form" = some (.ref fW))
    (mis : mg "isinstance" = none) (mli : mg "list" = none) (mal : mg "all" = none) : FnOk P w K mg base CX0 7 f fd ["forms"] spReqForms := by
  refine F.ok scReqForms (fun vs H Q E h => ?_) (fun cdv A outer s H vs Q E hr h => ?_)
  · obtain ⟨a, xs, fs, rfl, _⟩ := h
    rfl
  · obtain ⟨a, xs, fs, rfl, ha, hp, hz, hok, q⟩ := h
    have nd := scReqForms.nd
    refine ⟨_, pss_one (ps_if (PW.pt (pw_or (pt_not (pt_val (pe_callB call_isi (by rfl) mis boot_isi (pa_cons (pv 0) (pa_cons (pe_bltn (v := .ty "list") (by rfl) mli boot_list rfl) pa_nil)))))
        (pw_or1 (pt_not (pt_val (pe_callB (cr_all rfl) (by rfl) mal boot_all (pa_cons (pe_lc (own := [("form", 1)]) (g := gName 1) (tt := tYes) rfl nd (pi_list (pv 0)) (blkOk_by (own := [("form", 1)]) (N := ["forms", "form"]) (sc := defScope sReqForms) (by decide +kernel)) (fun _ _ _ _ _ => pg_name (i := 1) nd rfl (Or.inl rfl)) (fun _ _ _ _ _ => pts_nil)
          (fun _ _ _ _ _ => pe_call GW hr (by rfl) gW kW bW .nil pass0 (pa_cons (pv 1) pa_nil))) pa_nil))))))) pss_never pss_nil), ?_⟩
    have hx := pairs_len hp
    refine ⟨.ref a, rfl, _, _, _, _, true, rfl, ClsV.ty _, .base (.lst ha), kit_ty (by decide +kernel), true, rfl, iteF ?_⟩
    refine ⟨.ref a, rfl, a, rfl, ⟨_, SqL.of ha⟩, fun D nD => lc_same (walk_list (xs := xs)) nD (xs.map fun _ => V.bl true) (by rw [List.length_map]) (sz _ (by omega)) (fun H1 s1 => SqL.of (s1 _ _ ha)) ?_ fun H1 s1 eD => ?_⟩
    · rintro i y H1 H1' hi s1 ⟨rfl, hy⟩
      refine ⟨Same.refl _, rfl, fun Q' q' => ?_⟩
      obtain ⟨fm, hfi, hfm⟩ := prs_get hp hy
      exact ⟨y, rfl, y, fm, rfl, hfm.same s1, hok fm (List.mem_of_getElem? hfi), fun H2 s2 => q' _ _ s2 (by rw [List.getElem?_map, hy]; rfl)⟩
    · have eB : (xs.map fun _ => V.bl true) = (xs.map fun _ => true).map V.bl := by rw [List.map_map]; rfl
      refine ⟨D, xs.map fun _ => true, rfl, SqL.of (eB ▸ eD), ?_⟩
      rw [all_true]
      exact ⟨true, rfl, iteF (q H1 s1)⟩
def spReqWords (b : V) : Sp := fun vs H Q _ => ∃ (a : Addr) (ws : List Str), vs = [.ref a] ∧ H a = some (.lst (ws.map V.str)) ∧ ws.length ≤ 1000 ∧ (∀ x ∈ ws, x.length ≤ 1000 ∧ isWord (cp x) = true) ∧ ws.Nodup ∧ ∀ H', Same H H' → Q b H'
theorem ok_arewords {f fW : Addr} {fd dW : FuncData} (F : Fun K "are_words" "are_words" sAreWords f fd) (kW : PySem.W.keepIn K (.ref fW) = true) (GW : FnOk P w K mg base CX0 2 fW dW ["value"] (spTok K isWord)) (bW : Binds K dW ["value"] []) (gW : mg "is_word" = some (.ref fW))
    (mis : mg "isinstance" = none) (mli : mg "list" = none) (mal : mg "all" = none) (ml : mg "len" = none) (mse : mg "set" = none) : FnOk P w K mg base CX0 3 f fd ["value"] (spReqWords (.bl true)) := by
  refine F.ok scAreWords (fun vs H Q E h => ?_) (fun cdv A outer s H vs Q E hr h => ?_)
  · obtain ⟨a, xs, rfl, _⟩ := h
    rfl
  · obtain ⟨a, ws, rfl, ha, hz, hok, hnd, q⟩ := h
    have nd := scAreWords.nd
    refine ⟨_, pss_one (ps_ret (pe_and (pe_callB call_isi (by rfl) mis boot_isi (pa_cons (pv 0) (pa_cons (pe_bltn (v := .ty "list") (by rfl) mli boot_list rfl) pa_nil)))
        (pe_and (pe_callB (cr_all rfl) (by rfl) mal boot_all (pa_cons (pe_lc (own := [("word", 1)]) (g := gName 1) (tt := tYes) rfl nd (pi_list (pv 0)) (blkOk_by (own := [("word", 1)]) (N := ["value", "word"]) (sc := defScope sAreWords) (by decide +kernel)) (fun _ _ _ _ _ => pg_name (i := 1) nd rfl (Or.inl rfl)) (fun _ _ _ _ _ => pts_nil)
          (fun _ _ _ _ _ => pe_call GW hr (by rfl) gW kW bW .nil pass0 (pa_cons (pv 1) pa_nil))) pa_nil))
        (pe_one (pe_cmpR op_eq (pe_callB cr_lenX (by rfl) ml PySem.boot_len (pa_cons (pe_callTy (cr_setX rfl) (by rfl) mse boot_set (pa_cons (pv 0) pa_nil)) pa_nil)) (pe_callB call_len_seq (by rfl) ml PySem.boot_len (pa_cons (pv 0) pa_nil)) (nomark _)))))), ?_⟩
    have hll : (ws.map V.str).length = ws.length := List.length_map ..
    refine ⟨.ref a, rfl, _, _, _, _, true, rfl, ClsV.ty _, .base (.lst ha), kit_ty (by decide +kernel), true, rfl, iteT ?_⟩
    refine ⟨.ref a, rfl, a, rfl, ⟨_, SqL.of ha⟩, fun D nD => lc_same (walk_list (xs := ws.map V.str)) nD (ws.map fun _ => V.bl true) (by rw [List.length_map, hll]) (sz _ (by omega)) (fun H1 s1 => SqL.of (s1 _ _ ha)) ?_ fun H1 s1 eD => ?_⟩
    · rintro i y H1 H1' hi s1 ⟨rfl, hy⟩
      refine ⟨Same.refl _, rfl, fun Q' q' => ?_⟩
      obtain ⟨z, hz2, rfl⟩ := get_strs hy
      obtain ⟨z1, z2⟩ := hok z (List.mem_of_getElem? hz2)
      refine ⟨_, rfl, _, rfl, .inl ⟨z, rfl, by omega⟩, fun H2 s2 => ?_⟩
      rw [show ofS isWord (.str z) = isWord (cp z) from rfl, z2]
      exact q' _ _ s2 (by rw [List.getElem?_map, hz2]; rfl)
    · have eB : (ws.map fun _ => V.bl true) = (ws.map fun _ => true).map V.bl := by rw [List.map_map]; rfl
      refine ⟨D, ws.map fun _ => true, rfl, SqL.of (eB ▸ eD), ?_⟩
      rw [all_true]
      refine ⟨true, rfl, iteT ?_⟩
      refine ⟨_, rfl, a, ws, rfl, SqL.of (s1 _ _ ha), hz, fun S nS => ?_⟩
      have sS := same_upd (o := SetX P w S (ws.foldl TX.addS [])) nS
      have hf := foldS_nodup ws [] hnd (fun _ _ h => by cases h)
      refine ⟨S, _, rfl, upd_same, by rw [hf]; simp; omega, _, rfl, a, _, rfl, .inl (SqL.of (sS _ _ (s1 _ _ ha))), rfl, ?_⟩
      have e2 : decide (V.int ((ws.foldl TX.addS []).length : Int) = V.int ((ws.map V.str).length : Int)) = true := by
        rw [hf, hll]
        simp
      rw [e2]
      exact q _ (s1.trans sS)
theorem ok_reqwords {f fW : Addr} {fd dW : FuncData} (F : Fun K "require_words" "require_words" sReqWords f fd) (kW : PySem.W.keepIn K (.ref fW) = true) (GW : FnOk P w K mg base CX0 3 fW dW ["value"] (spReqWords (.bl true))) (bW : Binds K dW ["value"] []) (gW : mg "are_words" = some (.ref fW)) :
    FnOk P w K mg base CX0 4 f fd ["words"] (spReqWords .non) := by
  refine F.ok scReqWords (fun vs H Q E h => ?_) (fun cdv A outer s H vs Q E hr h => ?_)
  · obtain ⟨a, xs, rfl, _⟩ := h
    rfl
  · obtain ⟨a, ws, rfl, ha, hz, hok, hnd, q⟩ := h
    refine ⟨_, pss_one (ps_if (pt_not (pt_val (pe_call GW hr (by rfl) gW kW bW .nil pass0 (pa_cons (pv 0) pa_nil)))) pss_never pss_nil), ?_⟩
    exact ⟨.ref a, rfl, a, ws, rfl, ha, hz, hok, hnd, fun H1 s1 => ⟨true, rfl, iteF (q H1 s1)⟩⟩
def spClash : Sp := fun vs H Q _ => ∃ (a c : Addr) (xs : List V) (fs : List Fm) (hard : List Str), vs = [.ref a, .ref c] ∧ H a = some (.lst xs) ∧ Paired (FormAt H) xs fs ∧ H c = some (.lst (hard.map V.str)) ∧ hard.length ≤ 1000 ∧ (∀ x ∈ hard, x.length ≤ 1000 ∧ isWord (cp x) = true) ∧ hard.Nodup ∧ Sound fs hard ∧ ∀ H', Same H H' → Q .non H'
theorem ok_first {f fA fB fC : Addr} {fd dA dB dC : FuncData} (F : Fun K "first_clash" "first_clash" sFirstCl f fd) (kA : PySem.W.keepIn K (.ref fA) = true) (GA : FnOk P w K mg base CX0 7 fA dA ["forms"] spReqForms) (bA : Binds K dA ["forms"] []) (gA : mg "require_forms" = some (.ref fA))
    (kB : PySem.W.keepIn K (.ref fB) = true) (GB : FnOk P w K mg base CX0 4 fB dB ["words"] (spReqWords .non)) (bB : Binds K dB ["words"] []) (gB : mg "require_words" = some (.ref fB))
    (kC : PySem.W.keepIn K (.ref fC) = true) (GC : FnOk P w K mg base CX0 6 fC dC ["forms", "hard"] (spLeast K)) (bC : Binds K dC ["forms", "hard"] []) (gC : mg "least_clash" = some (.ref fC)) :
    FnOk P w K mg base CX0 8 f fd ["forms", "hard"] spClash := by
  refine F.ok scFirstCl (fun vs H Q E h => ?_) (fun cdv A outer s H vs Q E hr h => ?_)
  · obtain ⟨a, c, xs, fs, hard, rfl, _⟩ := h
    rfl
  · obtain ⟨a, c, xs, fs, hard, rfl, ha, hp, hc, hz, hw, hnd, hso, q⟩ := h
    have r3 := hr.mono (by decide : 4 ≤ 7)
    have r6 := hr.mono (by decide : 6 ≤ 7)
    refine ⟨_, pss_cons (ps_expr (pe_call GA hr (by rfl) gA kA bA .nil pass0 (pa_cons (pv 0) pa_nil)))
      (pss_cons (ps_expr (pe_call GB r3 (by rfl) gB kB bB .nil pass0 (pa_cons (pv 1) pa_nil)))
      (pss_one (ps_ret (pe_call GC r6 (by rfl) gC kC bC .nil pass0 (pa_cons (pv 0) (pa_cons (pv 1) pa_nil)))))), ?_⟩
    refine ⟨_, rfl, a, xs, fs, rfl, ha, hp, hso.few, hso.form, fun H1 s1 => ?_⟩
    refine ⟨_, rfl, c, hard, rfl, s1 _ _ hc, hz, hw, hnd, fun H2 s2 => ?_⟩
    have s12 := s1.trans s2
    exact ⟨_, rfl, _, rfl, a, c, xs, fs, hard, rfl, SqL.of (s12 _ _ ha), prs_keep (fun h => h.r.keep (TupS.of s12)) hp, SqL.of (s12 _ _ hc), hso, fun H3 s3 => q H3 (s12.trans s3)⟩
end
end K2

set_option Elab.async false
set_option linter.all false
set_option maxRecDepth 100000
set_option maxHeartbeats 8000000
/-! k03: kinds of tokens, bare texts, words by their place -/
namespace K2
open PySem PySem.Spec PyProof.Rows L2 EL LW ND
open Ln (L isWord isSign isNum isQuoted isTok)
open PySem.EV (ErrC ErrI)
abbrev sReqTok : Stmt := topS 63
abbrev sKind : Stmt := topS 66
abbrev sUnmarked : Stmt := topS 73
abbrev sWordAt : Stmt := topS 74
theorem scReqTok : FnScope ["token"] ["token"] (defScope sReqTok) := ⟨rfl, rfl, rfl, by decide +kernel, rfl, by decide +kernel, by decide +kernel⟩
theorem scKind : FnScope ["token"] ["token"] (defScope sKind) := ⟨rfl, rfl, rfl, by decide +kernel, rfl, by decide +kernel, by decide +kernel⟩
theorem scUnmarked : FnScope ["text", "token"] ["text"] (defScope sUnmarked) := ⟨rfl, rfl, rfl, by decide +kernel, rfl, by decide +kernel, by decide +kernel⟩
theorem scWordAt : FnScope ["at", "word", "left"] ["at"] (defScope sWordAt) := ⟨rfl, rfl, rfl, by decide +kernel, rfl, by decide +kernel, by decide +kernel⟩
def kindOf (x : Str) : Str := if x = Str.ofString "(" then Str.ofString "open" else if x = Str.ofString ")" then Str.ofString "close" else if isWord (cp x) then Str.ofString "word" else if isNum (cp x) then Str.ofString "number" else if isQuoted (cp x) then Str.ofString "quoted" else Str.ofString "sign"
section
variable {P : Program} {w : World} {K : PySem.W.Frag} {mg : Str → Option Value} {base : Heap} {C T I : Addr}
theorem dec_s2 (x y : Str) : decide (V.str x = V.str y) = decide (x = y) := by
  rw [Bool.eq_iff_iff, decide_eq_true_iff, decide_eq_true_iff]
  exact ⟨fun h => by cases h; rfl, fun h => by rw [h]⟩
def spReqTok (K : PySem.W.Frag) (C : Addr) : Sp := fun vs H Q E => ∃ v : V, vs = [v] ∧ Plain K H v ∧ (ofS isTok v = true → ∀ H', Same H H' → Q .non H') ∧ (ofS isTok v = false → Refuses C H v E)
theorem ok_reqtok {f fT : Addr} {fd dT : FuncData} (F : Fun K "require_token" "require_token" sReqTok f fd) (kT : PySem.W.keepIn K (.ref fT) = true) (GT : FnOk P w K mg base CX0 4 fT dT ["value"] (spTok K isTok)) (bT : Binds K dT ["value"] []) (gT : mg "is_token" = some (.ref fT))
    (Z : ErrC K C T) (J : ErrI K C I) (mC : mg "InvalidToken" = some (.ref C)) : FnOk P w K mg base (L2.CX P w) 5 f fd ["token"] (spReqTok K C) := by
  refine F.okX scReqTok (fun vs H Q E h => ?_) (fun cdv A outer s H vs Q E hr h => ?_)
  · obtain ⟨v, rfl, _⟩ := h
    rfl
  · obtain ⟨v, rfl, hv, q1, q2⟩ := h
    refine ⟨_, pss_one (ps_if (pt_not (pt_val (pe_call GT hr (by rfl) gT kT bT .nil pass0 (pa_cons (pv 0) pa_nil)))) (pss_one (ps_raiseErr rfl Z J hr (takes_of rfl rfl rfl rfl) mC (pv 0))) pss_nil), ?_⟩
    refine ⟨v, rfl, v, rfl, hv, fun H1 s1 => ⟨_, rfl, ?_⟩⟩
    cases e : ofS isTok v with
    | true => exact iteF (q1 e H1 s1)
    | false => exact iteT ⟨v, rfl, fun d hd => q2 e d _ (s1.trans (same_upd hd)) upd_same⟩
def spKind (K : PySem.W.Frag) (C : Addr) : Sp := fun vs H Q E => ∃ v : V, vs = [v] ∧ Plain K H v ∧ (∀ x : Str, v = .str x → isTok (cp x) = true → ∀ H', Same H H' → Q (.str (kindOf x)) H') ∧ (ofS isTok v = false → Refuses C H v E)
theorem ok_kind {f fQ fW fN fU : Addr} {fd dQ dW dN dU : FuncData} (F : Fun K "kind" "kind" sKind f fd) (kQ : PySem.W.keepIn K (.ref fQ) = true) (GQ : FnOk P w K mg base (L2.CX P w) 5 fQ dQ ["token"] (spReqTok K C)) (bQ : Binds K dQ ["token"] []) (gQ : mg "require_token" = some (.ref fQ))
    (kW : PySem.W.keepIn K (.ref fW) = true) (GW : FnOk P w K mg base CX0 2 fW dW ["value"] (spTok K isWord)) (bW : Binds K dW ["value"] []) (gW : mg "is_word" = some (.ref fW))
    (kN : PySem.W.keepIn K (.ref fN) = true) (GN : FnOk P w K mg base CX0 2 fN dN ["value"] (spTok K isNum)) (bN : Binds K dN ["value"] []) (gN : mg "is_number" = some (.ref fN))
    (kU : PySem.W.keepIn K (.ref fU) = true) (GU : FnOk P w K mg base CX0 3 fU dU ["value"] (spTok K isQuoted)) (bU : Binds K dU ["value"] []) (gU : mg "is_quoted" = some (.ref fU)) :
    FnOk P w K mg base (L2.CX P w) 6 f fd ["token"] (spKind K C) := by
  refine F.okX scKind (fun vs H Q E h => ?_) (fun cdv A outer s H vs Q E hr h => ?_)
  · obtain ⟨v, rfl, _⟩ := h
    rfl
  · obtain ⟨v, rfl, hv, q1, q2⟩ := h
    have nd := scKind.nd
    have r2 := hr.mono (by decide : 2 ≤ 5)
    have r3 := hr.mono (by decide : 3 ≤ 5)
    refine ⟨_, pss_cons (ps_expr (pe_callS GQ hr (by rfl) gQ kQ bQ (fun σ => passAt (takes_of rfl rfl rfl rfl) σ) (pa_cons (pv 0) pa_nil)))
      (PSs.nox (pss_cons (ps_if (pt_cmpR op_eq (pv 0) pe_str (nomark _)) (pss_one (ps_ret pe_str)) pss_nil)
      (pss_cons (ps_if (pt_cmpR op_eq (pv 0) pe_str (nomark _)) (pss_one (ps_ret pe_str)) pss_nil)
      (pss_cons (ps_if (pt_val (pe_call GW r2 (by rfl) gW kW bW .nil pass0 (pa_cons (pv 0) pa_nil))) (pss_one (ps_ret pe_str)) pss_nil)
      (pss_cons (ps_if (pt_val (pe_call GN r2 (by rfl) gN kN bN .nil pass0 (pa_cons (pv 0) pa_nil))) (pss_one (ps_ret pe_str)) pss_nil)
      (pss_one (ps_ret (pe_ifExp (pt_val (pe_call GU r3 (by rfl) gU kU bU .nil pass0 (pa_cons (pv 0) pa_nil))) pe_str pe_str)))))))), ?_⟩
    refine ⟨v, rfl, v, rfl, hv, fun hb H1 s1 => ?_, q2⟩
    obtain ⟨x, rfl⟩ : ∃ x, v = .str x := by
      cases v with
      | str x => exact ⟨x, rfl⟩
      | _ => cases hb
    have ht : isTok (cp x) = true := hb
    have hl : x.length ≤ 9 := by rw [← cp_len]; exact (Ln.tok_of ht).2
    have pl : ∀ H', Plain K H' (.str x) := fun H' => .inl ⟨x, rfl, by omega⟩
    have q := q1 x rfl ht
    unfold kindOf at q
    refine ⟨_, rfl, rfl, _, rfl, ?_⟩
    rw [dec_s2]
    by_cases c1 : x = Str.ofString "("
    · rw [decide_eq_true c1]
      rw [if_pos c1] at q
      exact iteT (q H1 s1)
    rw [decide_eq_false c1]
    rw [if_neg c1] at q
    refine iteF ⟨_, rfl, rfl, _, rfl, ?_⟩
    rw [dec_s2]
    by_cases c2 : x = Str.ofString ")"
    · rw [decide_eq_true c2]
      rw [if_pos c2] at q
      exact iteT (q H1 s1)
    rw [decide_eq_false c2]
    rw [if_neg c2] at q
    refine iteF ⟨_, rfl, _, rfl, pl _, fun H2 s2 => ⟨_, rfl, ?_⟩⟩
    rw [show ofS isWord (.str x) = isWord (cp x) from rfl]
    cases c3 : isWord (cp x) with
    | true =>
      rw [c3, if_pos rfl] at q
      exact iteT (q H2 (s1.trans s2))
    | false =>
      rw [c3, if_neg Bool.false_ne_true] at q
      refine iteF ⟨_, rfl, _, rfl, pl _, fun H3 s3 => ⟨_, rfl, ?_⟩⟩
      rw [show ofS isNum (.str x) = isNum (cp x) from rfl]
      cases c4 : isNum (cp x) with
      | true =>
        rw [c4, if_pos rfl] at q
        exact iteT (q H3 ((s1.trans s2).trans s3))
      | false =>
        rw [c4, if_neg Bool.false_ne_true] at q
        refine iteF ⟨_, rfl, _, rfl, pl _, fun H4 s4 => ⟨_, rfl, ?_⟩⟩
        rw [show ofS isQuoted (.str x) = isQuoted (cp x) from rfl]
        cases c5 : isQuoted (cp x) with
        | true =>
          rw [c5, if_pos rfl] at q
          exact iteT (q H4 (((s1.trans s2).trans s3).trans s4))
        | false =>
          rw [c5, if_neg Bool.false_ne_true] at q
          exact iteF (q H4 (((s1.trans s2).trans s3).trans s4))
/-- a text without brackets, its quoted words as words -/
def bareOf (ts : List L) : List L := (ts.filter fun t => !(t == [40] || t == [41])).map fun t => if isQuoted t then t.drop 1 else t
def spUnm (K : PySem.W.Frag) (C : Addr) : Sp := fun vs H Q E => ∃ (v : V) (b : Bool), vs = [v] ∧ TxV K H v b ∧
  (b = true → ∀ (a : Addr) (ts : List L), v = .ref a → H a = some (.lst (vl ts)) → (∀ t ∈ ts, isTok t = true) → ts.length ≤ 1000 → ∀ D H', Same H H' → H D = none → H' D = some (.lst (vl (bareOf ts))) → Q (.ref D) H') ∧ (b = false → Refuses C H v E)
theorem bare_step {ts : List L} {i : Nat} {t : L} (h : ts[i]? = some t) : bareOf (ts.take (i + 1)) = bareOf (ts.take i) ++ (if t == [40] || t == [41] then [] else [if isQuoted t then t.drop 1 else t]) := by
  obtain ⟨hi, e⟩ := List.getElem?_eq_some_iff.mp h
  unfold bareOf
  rw [List.take_succ_eq_append_getElem hi, List.filter_append, List.map_append, e]
  congr 1
  cases c : (t == [40] || t == [41]) with
  | true => simp only [List.filter_cons, c, Bool.not_true, Bool.false_eq_true, if_false, List.filter_nil, List.map_nil, if_true]
  | false => simp only [List.filter_cons, c, Bool.not_false, if_true, List.filter_nil, List.map_cons, List.map_nil, Bool.false_eq_true, if_false]
theorem bare_len (ts : List L) (i : Nat) : (bareOf (ts.take i)).length ≤ ts.length := by
  unfold bareOf
  rw [List.length_map]
  exact Nat.le_trans (List.length_filter_le _ _) (List.length_take_le' _ _)
theorem inBr (t : L) : inV (.str (S t)) [V.str "(", V.str ")"] = (t == [40] || t == [41]) := by
  have h1 : ∀ c : Nat, (eqV (.str ⟨#[c]⟩) (.str (S t))) = (t == [c]) := by
    intro c
    show ((⟨#[c]⟩ : Str) == S t) = (t == [c])
    rw [Bool.eq_iff_iff, beq_iff_eq, beq_iff_eq]
    refine ⟨fun h => ?_, fun h => by rw [h]; rfl⟩
    have := congrArg cp h
    rw [cp_S] at this
    exact this.symm
  unfold inV
  show (eqV (.str ⟨#[40]⟩) (.str (S t)) || (eqV (.str ⟨#[41]⟩) (.str (S t)) || false)) = _
  rw [h1, h1, Bool.or_false]
theorem ok_unmarked {f fQ fU aB : Addr} {fd dQ dU : FuncData} (F : Fun K "unmarked" "unmarked" sUnmarked f fd) (kQ : PySem.W.keepIn K (.ref fQ) = true) (GQ : FnOk P w K mg base (L2.CX P w) 6 fQ dQ ["text"] (spReq K C)) (bQ : Binds K dQ ["text"] []) (gQ : mg "require_text" = some (.ref fQ))
    (kU : PySem.W.keepIn K (.ref fU) = true) (GU : FnOk P w K mg base CX0 3 fU dU ["value"] (spTok K isQuoted)) (bU : Binds K dU ["value"] []) (gU : mg "is_quoted" = some (.ref fU))
    (mB : mg "BRACKETS" = some (.ref aB)) (hB : ∀ H : Hp, SqT K H aB [.str "(", .str ")"]) :
    FnOk P w K mg base (L2.CX P w) 7 f fd ["text"] (spUnm K C) := by
  refine F.okX scUnmarked (fun vs H Q E h => ?_) (fun cdv A outer s H vs Q E hr h => ?_)
  · obtain ⟨v, b, rfl, _⟩ := h
    rfl
  · obtain ⟨v, b, rfl, hv, q1, q2⟩ := h
    have nd := scUnmarked.nd
    have r3 := hr.mono (by decide : 3 ≤ 6)
    refine ⟨_, pss_cons (ps_expr (pe_callS GQ hr (by rfl) gQ kQ bQ (fun σ => passAt (takes_of rfl rfl rfl rfl) σ) (pa_cons (pv 0) pa_nil)))
      (PSs.nox (pss_one (ps_ret (pe_lc (own := [("token", 1)]) (g := gName 1) rfl nd (pi_list (pv 0)) (blkOk_by (own := [("token", 1)]) (N := ["text", "token"]) (sc := defScope sUnmarked) (by decide +kernel)) (fun _ _ _ _ _ => pg_name (i := 1) nd rfl (Or.inl rfl))
        (fun _ _ _ _ _ => pts_one (pt_cmpR (r := rIn K true) op_notIn_seq (pv 1) (pe_glob (v := .ref aB) (by rfl) mB rfl) (by rfl)))
        (fun _ _ _ _ _ => pe_ifExp (pt_val (pe_call GU r3 (by rfl) gU kU bU .nil pass0 (pa_cons (pv 1) pa_nil))) (pe_slice sl_str (pv 1) (po_some pe_int) po_none) (pv 1)))))), ?_⟩
    refine ⟨v, rfl, v, b, rfl, hv, fun hb H1 s1 => ?_, q2⟩
    subst hb
    obtain ⟨a, ts, rfl, e, ht, hn⟩ := line_true hv
    have nlen : (vl ts).length = ts.length := by unfold vl; rw [List.length_map]
    refine ⟨_, rfl, a, rfl, ⟨_, SqL.of (s1 _ _ e)⟩, fun D nD => ?_⟩
    refine lc_list (xs := vl ts) (fun i H' => Same H1 H' ∧ H' D = some (.lst (vl (bareOf (ts.take i))))) ⟨same_upd nD, upd_same⟩ (fun i H' _ h => SqL.of (h.1 _ _ (s1 _ _ e))) ?_ ?_
    · rintro i x H2 hx ⟨s2, eD⟩
      have hx0 := hx
      unfold vl at hx
      rw [List.getElem?_map] at hx
      obtain ⟨t, htt, rfl⟩ := Option.map_eq_some_iff.mp hx
      have htk := ht t (List.mem_of_getElem? htt)
      have h9 : t.length ≤ 9 := (Ln.tok_of htk).2
      have hle := bare_len ts i
      refine ⟨rfl, _, rfl, aB, _, rfl, .inr (hB H2), rfl, rfl, _, rfl, ?_⟩
      rw [if_pos rfl, inBr, bare_step htt]
      have vapp : ∀ (l : List L) (u : L), vl (l ++ [u]) = vl l ++ [V.str (S u)] := fun l u => by unfold vl; rw [List.map_append]; rfl
      have vlen : ∀ l : List L, (vl l).length = l.length := fun l => by unfold vl; rw [List.length_map]
      cases c : (t == [40] || t == [41]) with
      | true =>
        refine iteF ⟨s2, ?_⟩
        rw [if_pos rfl, List.append_nil]
        exact eD
      | false =>
        rw [if_neg Bool.false_ne_true, vapp]
        refine iteT ⟨_, rfl, _, rfl, .inl ⟨S t, rfl, by rw [S_len]; omega⟩, fun H3 s3 => ⟨_, rfl, ?_⟩⟩
        rw [show ofS isQuoted (.str (S t)) = isQuoted t from rfl]
        cases c2 : isQuoted t with
        | true =>
          refine iteT ⟨_, rfl, 1, rfl, S t, rfl, by rw [S_len]; exact sz _ (by omega), vl (bareOf (ts.take i)), s3 _ _ eD, sz _ (by rw [vlen]; omega), same_over nD (s2.trans s3), ?_⟩
          rw [upd_same, if_pos rfl]
          have : cutS (S t) (some 1) none = S (t.drop 1) := cp_inj ((cut_drop (S t) 1).trans (by rw [cp_S, cp_S]))
          rw [this]
        | false =>
          refine iteF ⟨_, rfl, vl (bareOf (ts.take i)), s3 _ _ eD, sz _ (by rw [vlen]; omega), same_over nD (s2.trans s3), ?_⟩
          rw [upd_same, if_neg Bool.false_ne_true]
    · rintro H2 ⟨s2, eD⟩
      rw [nlen, List.take_length] at eD
      have n0 : H D = none := by
        cases z : H D with
        | none => rfl
        | some o =>
          rw [s1 _ _ z] at nD
          cases nD
      exact q1 rfl a ts rfl e ht hn D H2 (s1.trans s2) n0 eD
end
end K2

set_option Elab.async false
set_option linter.all false
set_option maxRecDepth 100000
set_option maxHeartbeats 8000000
/-! k03: the words in order -/
namespace K2
open PySem PySem.Spec PyProof.Rows L2 EL LW ND
open Ln (L isWord isSign isNum isQuoted isTok)
open PySem.EV (ErrC ErrI)
/-- the letters that so many left stand for -/
def wAt (n : Nat) : L := if h : n = 0 then [] else wAt ((n - 1) / 26) ++ [97 + (n - 1) % 26]
termination_by n
decreasing_by omega
theorem wAt_pos {n : Nat} (h : 0 < n) : wAt n = wAt ((n - 1) / 26) ++ [97 + (n - 1) % 26] := by
  rw [wAt]
  rw [dif_neg (by omega)]
theorem wAt_zero : wAt 0 = [] := by
  rw [wAt]
  rfl
theorem wAt_len : ∀ (k n : Nat), n ≤ k → (wAt n).length ≤ n
  | 0, n, h => by
    obtain rfl : n = 0 := by omega
    rw [wAt_zero]
    exact Nat.le_refl _
  | k + 1, n, h => by
    by_cases c : n = 0
    · subst c
      rw [wAt_zero]
      exact Nat.le_refl _
    · have := wAt_len k ((n - 1) / 26) (by omega)
      rw [wAt_pos (by omega), List.length_append, List.length_singleton]
      omega
section
variable {P : Program} {w : World} {K : PySem.W.Frag} {mg : Str → Option Value} {base : Heap} {C T I : Addr}
def spWordAt : Sp := fun vs H Q _ => ∃ n : Nat, vs = [.int n] ∧ n < 100000 ∧ Q (.str (S (wAt (n + 1)))) H
theorem ok_wordat {f : Addr} {fd : FuncData} {k : Nat} {t : Tok} (F : Fun K "word_at" "word_at" sWordAt f fd) (mL : mg "LETTERS" = some (.str letS t)) : FnOk P w K mg base CX0 (k + 1) f fd ["at"] spWordAt := by
  refine F.ok scWordAt (fun vs H Q E h => ?_) (fun cdv A outer s H vs Q E hr h => ?_)
  · obtain ⟨n, rfl, _⟩ := h
    rfl
  · obtain ⟨n, rfl, hn, q⟩ := h
    have nd := scWordAt.nd
    refine ⟨_, pss_cons (ps_set (i := 1) nd rfl (.inl rfl) pe_str)
      (pss_cons (ps_set (i := 2) nd rfl (.inl rfl) (pe_op op_add (pv 0) pe_int))
      (pss_cons (ps_while PassesOwn.never (pt_cmpR op_gt (pv 2) pe_int (nomark _))
          (pss_cons (ps_aug (i := 2) nd rfl (.inl rfl) pe_int ip_sub)
          (pss_cons (ps_set (i := 1) nd rfl (.inl rfl) (pe_op op_add_str (pe_ix ix_str (pe_glob (v := .str letS) (by rfl) mL ⟨_, rfl⟩) (pe_op op_mod (pv 2) pe_int) (fun _ _ => rfl)) (pv 1)))
          (pss_one (ps_set (i := 2) nd rfl (.inl rfl) (pe_op op_fdiv (pv 2) pe_int))))))
      (pss_one (ps_ret (pv 1))))), ?_⟩
    refine ⟨_, rfl, _, _, rfl, rfl, ?_⟩
    refine ⟨fun m σ H' => ∃ (l : Nat) (u : L), l ≤ n + 1 ∧ m = l ∧ wAt l ++ u = wAt (n + 1) ∧ u.length + l ≤ n + 1 ∧ σ = [some (.int n), some (.str (S u)), some (.int l)] ∧ H' = H, ⟨n + 1, n + 1, [], Nat.le_refl _, rfl, List.append_nil _, by simp, rfl, rfl⟩, ?_⟩
    rintro m σ H' ⟨l, u, hl, rfl, hw, hul, rfl, rfl⟩
    refine ⟨_, rfl, _, _, rfl, rfl, _, rfl, ite2 (fun c => ?_) (fun c => ?_)⟩
    · have l0 : 0 < m := by
        have := of_decide_eq_true c
        omega
      refine ⟨fun σ' H1 => ∃ m', m' < m ∧ ∃ (l : Nat) (u : L), l ≤ n + 1 ∧ m' = l ∧ wAt l ++ u = wAt (n + 1) ∧ u.length + l ≤ n + 1 ∧ σ' = [some (.int n), some (.str (S u)), some (.int l)] ∧ H1 = H', fun _ _ h => h, ?_⟩
      refine ⟨_, rfl, _, _, rfl, rfl, ?_⟩
      have g : atI letS.cps.toList (((m : Int) - 1) % 26) = some (97 + (m - 1) % 26) := by
        have := atI_nat (xs := letS.cps.toList) (j := (m - 1) % 26) (abc ((m - 1) % 26) (Nat.mod_lt _ (by decide)))
        rw [show (((m - 1) % 26 : Nat) : Int) = ((m : Int) - 1) % 26 from by omega] at this
        exact this
      refine ⟨_, rfl, _, _, rfl, rfl, (show (0 : Int) < 26 by decide), letS, _, _, rfl, rfl, by decide +kernel, g, _, rfl, _, _, rfl, rfl, ?_, ?_⟩
      · rw [S_len]
        have h100 := sz 100000 (Nat.le_refl _)
        show 1 + u.length ≤ sizeLine
        omega
      refine ⟨_, rfl, _, _, rfl, rfl, ⟨by decide, by decide⟩, (m - 1) / 26, by omega, (m - 1) / 26, (97 + (m - 1) % 26) :: u, by omega, rfl, ?_, ?_, ?_, rfl⟩
      · rw [← hw, wAt_pos l0, List.append_assoc]
        rfl
      · rw [List.length_cons]
        omega
      · have e1 : ((m : Int) - 1) / 26 = (((m - 1) / 26 : Nat) : Int) := by omega
        have e2 : (⟨#[97 + (m - 1) % 26]⟩ : Str) ++ S u = S ((97 + (m - 1) % 26) :: u) := cp_inj (by
          show ((#[97 + (m - 1) % 26] : Array Nat) ++ u.toArray).toList = _
          simp [cp_S])
        show [some (V.int n), some (V.str ((⟨#[97 + (m - 1) % 26]⟩ : Str) ++ S u)), some (V.int (((m : Int) - 1) / 26))] = _
        rw [e1, e2]
    · have l0 : m = 0 := by
        rcases Nat.eq_zero_or_pos m with z | z
        · exact z
        · exact absurd (decide_eq_true (by omega)) c
      subst l0
      rw [wAt_zero, List.nil_append] at hw
      rw [hw]
      exact ⟨_, rfl, q⟩
end
end K2

set_option Elab.async false
set_option linter.all false
set_option maxRecDepth 100000
set_option maxHeartbeats 8000000
/-! k03: the table of levels, the places -/
namespace K2
open PySem PySem.Spec PyProof.Rows L2 EL LW ND
open Ln (L isWord isSign isTok)
open PySem.EV (ErrC ErrI)
def putI (m : Lv) (k : NestedKey) (i : Int) : Lv := if (m.find? fun q => decide (q.1 = k)).isSome then m.map fun q => if q.1 = k then (q.1, i) else q else m ++ [(k, i)]
theorem kvI_find (k : NestedKey) : ∀ m : Lv, atN (kvI m) k = (m.find? fun q => decide (q.1 = k)).map fun q => V.int q.2
  | [] => rfl
  | q :: m => by
    have ih := kvI_find k m
    unfold atN kvI at ih ⊢
    rw [List.map_cons, List.find?_cons, List.find?_cons]
    by_cases c : q.1 = k
    · simp only [decide_eq_true c]
      rfl
    · simp only [decide_eq_false c]
      exact ih
theorem kvI_put (m : Lv) (k : NestedKey) (i : Int) : kvI (putI m k i) = putN (kvI m) k (.int i) := by
  unfold putI putN
  rw [kvI_find, Option.isSome_map]
  split
  · unfold kvI
    rw [List.map_map, List.map_map]
    refine List.map_congr_left fun q _ => ?_
    show _ = if q.1 = k then (q.1, V.int i) else (q.1, V.int q.2)
    by_cases c : q.1 = k
    · rw [if_pos c]
      show ((if q.1 = k then (q.1, i) else q).1, V.int (if q.1 = k then (q.1, i) else q).2) = _
      rw [if_pos c]
    · rw [if_neg c]
      show ((if q.1 = k then (q.1, i) else q).1, V.int (if q.1 = k then (q.1, i) else q).2) = _
      rw [if_neg c]
  · unfold kvI
    rw [List.map_append]
    rfl
theorem putI_len (m : Lv) (k : NestedKey) (i : Int) : (putI m k i).length ≤ m.length + 1 := by
  unfold putI
  split
  · rw [List.length_map]
    exact Nat.le_succ _
  · rw [List.length_append, List.length_singleton]
    exact Nat.le_refl _
/-- the table that all keys with their levels make, one after the other -/
def lvFold (l : Lv) : Lv := l.foldl (fun m q => putI m q.1 q.2) []
theorem lvFold_snoc (l : Lv) (q : NestedKey × Int) : lvFold (l ++ [q]) = putI (lvFold l) q.1 q.2 := by
  unfold lvFold
  rw [List.foldl_append]
  rfl
theorem lvFold_len : ∀ (l acc : Lv), (l.foldl (fun m q => putI m q.1 q.2) acc).length ≤ l.length + acc.length
  | [], acc => by simp
  | q :: l, acc => by
    rw [List.foldl_cons]
    have h1 := lvFold_len l (putI acc q.1 q.2)
    have h2 := putI_len acc q.1 q.2
    rw [List.length_cons]
    omega
theorem find_keep {k : NestedKey} {p : NestedKey × Int} : ∀ {m : Lv} {j : NestedKey} {i : Int}, (m.find? fun q => decide (q.1 = k)) = some p → ∃ p', ((putI m j i).find? fun q => decide (q.1 = k)) = some p' := by
  intro m j i h
  have hm : p ∈ m ∧ p.1 = k := ⟨List.mem_of_find?_eq_some h, of_decide_eq_true (List.find?_some (p := fun q : NestedKey × Int => decide (q.1 = k)) h)⟩
  have : ((putI m j i).find? fun q => decide (q.1 = k)).isSome = true := by
    rw [List.find?_isSome]
    unfold putI
    split
    · refine ⟨if p.1 = j then (p.1, i) else p, List.mem_map.mpr ⟨p, hm.1, rfl⟩, ?_⟩
      split
      · exact decide_eq_true hm.2
      · exact decide_eq_true hm.2
    · exact ⟨p, List.mem_append_left _ hm.1, decide_eq_true hm.2⟩
  exact Option.isSome_iff_exists.mp this
theorem find_put {k : NestedKey} {m : Lv} {i : Int} : ∃ p', ((putI m k i).find? fun q => decide (q.1 = k)) = some p' := by
  refine Option.isSome_iff_exists.mp ?_
  rw [List.find?_isSome]
  unfold putI
  split
  · rename_i c
    rw [List.find?_isSome] at c
    obtain ⟨q, hq, e⟩ := c
    refine ⟨_, List.mem_map.mpr ⟨q, hq, rfl⟩, ?_⟩
    rw [if_pos (of_decide_eq_true e)]
    exact e
  · exact ⟨(k, i), List.mem_append_right _ (List.mem_singleton.mpr rfl), decide_eq_true rfl⟩
theorem lvFold_has {k : NestedKey} : ∀ (l acc : Lv), ((∃ p, (acc.find? fun q => decide (q.1 = k)) = some p) ∨ ∃ i, (k, i) ∈ l) → ∃ p, ((l.foldl (fun m q => putI m q.1 q.2) acc).find? fun q => decide (q.1 = k)) = some p
  | [], acc, h => by
    rcases h with h | ⟨i, h⟩
    · exact h
    · cases h
  | q :: l, acc, h => by
    rw [List.foldl_cons]
    refine lvFold_has l _ ?_
    rcases h with ⟨p, h⟩ | ⟨i, h⟩
    · exact .inl (find_keep h)
    · rcases List.mem_cons.mp h with h | h
      · subst h
        exact .inl find_put
      · exact .inr ⟨i, h⟩
theorem lvFold_at {k : NestedKey} {l : Lv} {i : Int} (h : (k, i) ∈ l) : ∃ j, atN (kvI (lvFold l)) k = some (.int j) := by
  obtain ⟨p, hp⟩ := lvFold_has (k := k) l [] (.inr ⟨i, h⟩)
  refine ⟨p.2, ?_⟩
  rw [kvI_find]
  unfold lvFold
  rw [hp]
  rfl
/-! ### the places that followers tells -/
def FolR (R : List Str → Str → Prop) (m : Fol) : Prop := ∀ q ∈ m, q.2 ≠ [] ∧ ∀ x ∈ q.2, R q.1 x
theorem addF_rel {R : List Str → Str → Prop} {pl : List Str} {it : Str} (h : R pl it) : ∀ {m : Fol}, FolR R m → FolR R (addF m pl it)
  | [], _ => by
    intro q hq
    obtain rfl := List.mem_singleton.mp hq
    exact ⟨by simp, fun x hx => by rw [List.mem_singleton.mp hx]; exact h⟩
  | q0 :: m, hm => by
    intro q hq
    unfold addF at hq
    by_cases c : q0.1 = pl
    · rw [if_pos c] at hq
      rcases List.mem_cons.mp hq with rfl | hq
      · refine ⟨by simp, fun x hx => ?_⟩
        rcases List.mem_append.mp hx with hx | hx
        · exact (hm q0 List.mem_cons_self).2 x hx
        · rw [List.mem_singleton.mp hx]
          show R q0.1 it
          rw [c]
          exact h
      · exact hm q (List.mem_cons_of_mem _ hq)
    · rw [if_neg c] at hq
      rcases List.mem_cons.mp hq with rfl | hq
      · exact hm _ List.mem_cons_self
      · exact addF_rel h (fun q hq => hm q (List.mem_cons_of_mem _ hq)) q hq
theorem folPat_rel {R : List Str → Str → Prop} {p : List Str} {m : Fol} (hm : FolR R m) : ∀ n, (∀ j, j < n → R (p.take (j + 1)) (itemAt p (j + 1))) → FolR R (folPat m p n)
  | 0, _ => hm
  | n + 1, h => by
    unfold folPat
    split
    · exact folPat_rel hm n fun j hj => h j (by omega)
    · exact addF_rel (h n (Nat.lt_succ_self _)) (folPat_rel hm n fun j hj => h j (by omega))
theorem folOf_rel {R : List Str → Str → Prop} : ∀ (ps : List (List Str)) (m : Fol), FolR R m → (∀ p ∈ ps, ∀ j, j < p.length → R (p.take (j + 1)) (itemAt p (j + 1))) → FolR R (ps.foldl (fun m p => folPat m p p.length) m)
  | [], _, hm, _ => hm
  | p :: ps, m, hm, h => by
    rw [List.foldl_cons]
    exact folOf_rel ps _ (folPat_rel hm _ (h p List.mem_cons_self)) fun q hq => h q (List.mem_cons_of_mem _ hq)
/-- where something stands behind a place, a pattern begins so -/
theorem fol_from {ps : List (List Str)} {q : List Str × List Str} (h : q ∈ folOf ps) : q.2 ≠ [] ∧ ∀ x ∈ q.2, ∃ p ∈ ps, ∃ j, j < p.length ∧ q.1 = p.take (j + 1) ∧ x = itemAt p (j + 1) :=
  folOf_rel (R := fun pl x => ∃ p ∈ ps, ∃ j, j < p.length ∧ pl = p.take (j + 1) ∧ x = itemAt p (j + 1)) ps [] (fun q hq => by cases hq) (fun p hp j hj => ⟨p, hp, j, hj, rfl, rfl⟩) q h
theorem fol_ne {ps : List (List Str)} {q : List Str × List Str} (h : q ∈ folOf ps) : q.1 ≠ [] := by
  obtain ⟨h1, h2⟩ := fol_from h
  obtain ⟨x, hx⟩ := List.exists_mem_of_ne_nil _ h1
  obtain ⟨p, _, j, hj, e, _⟩ := h2 x hx
  rw [e]
  intro z
  have : (p.take (j + 1)).length = 0 := by rw [z]; rfl
  rw [List.length_take] at this
  omega
theorem fol_hole {fs : List Fm} (hok : ∀ f ∈ fs, FmOk f) {q : List Str × List Str} (h : q ∈ folOf (patsOf fs)) (hh : hole ∈ q.2) : ∃ i, (hKey q.1, i) ∈ allLv fs := by
  obtain ⟨p, hp, j, hj, e, ex⟩ := (fol_from h).2 hole hh
  obtain ⟨f, hf, rfl⟩ := List.mem_map.mp hp
  have hlt : j + 1 < f.pat.length := by
    rcases Nat.lt_or_ge (j + 1) f.pat.length with c | c
    · exact c
    · unfold itemAt at ex
      rw [if_neg (by omega)] at ex
      exact absurd ex (by decide +kernel)
  have hx : f.pat.getD (j + 1) hole = hole := by
    unfold itemAt at ex
    rw [if_pos hlt] at ex
    exact ex.symm
  have hmem : holeN f.pat (j + 1) ∈ keysN f.pat := by
    unfold keysN
    refine List.mem_cons_of_mem _ (List.mem_map.mpr ⟨j + 1, ?_, rfl⟩)
    unfold holesAt
    exact List.mem_filter.mpr ⟨List.mem_range.mpr hlt, decide_eq_true hx⟩
  have ek : holeN f.pat (j + 1) = hKey q.1 := by
    unfold holeN hKey plK
    rw [if_neg (by omega), e]
    have : f.pat.take (j + 1 + 1) = f.pat.take (j + 1) ++ [hole] := by
      rw [List.take_succ_eq_append_getElem hlt]
      congr 2
      rw [List.getD_eq_getElem?_getD, List.getElem?_eq_getElem hlt] at hx
      exact hx
    rw [this]
  rw [ek] at hmem
  have hl : (keysN f.pat).length = (f.lev :: f.levs).length := by rw [keysN_len, List.length_cons, (hok f hf).len]
  obtain ⟨n, hn, e2⟩ := List.getElem_of_mem hmem
  refine ⟨(f.lev :: f.levs)[n]'(by omega), List.mem_flatMap.mpr ⟨f, hf, ?_⟩⟩
  unfold keyLevs
  refine List.mem_iff_getElem.mpr ⟨n, by rw [List.length_zip]; omega, ?_⟩
  rw [List.getElem_zip, e2]
end K2

set_option Elab.async false
set_option linter.all false
set_option maxRecDepth 100000
set_option maxHeartbeats 8000000
/-! k03: the tables of an edition -/
namespace K2
open PySem PySem.Spec PyProof.Rows L2 EL LW ND
open Ln (L isWord isSign isTok)
open PySem.EV (ErrC ErrI)
def clsBody : Stmt → List Stmt
  | .ClassDef _ _ _ b _ _ _ _ _ _ _ => b
  | _ => []
def meth (c m : Nat) : Stmt := (clsBody (topS c)).getD m (.Pass ⟨0, 0, 0, 0⟩)
abbrev sGram : Stmt := meth 51 0
abbrev nGram : List Str := ["self", "forms", "hard", "patterns", "form", "key", "level", "behind", "place", "token", "word"]
theorem scGram : FnScope nGram ["self", "forms", "hard"] (defScope sGram) := ⟨rfl, rfl, rfl, by decide +kernel, rfl, by decide +kernel, by decide +kernel⟩
structure GramC (K : PySem.W.Frag) (G : Addr) : Prop where
  c : L2.Cls K G
  n1 : NoAttr K G "levels"
  n2 : NoAttr K G "follows"
  n3 : NoAttr K G "middles"
  n4 : NoAttr K G "hard_words"
  n5 : NoAttr K G "told"
  n6 : NoAttr K G "answers"
section
variable {P : Program} {w : World} {K : PySem.W.Frag} {mg : Str → Option Value} {base : Heap} {C T I : Addr}
theorem pe_fldK {X : Cx} {e : Expr} {g : Str} {pos : Pos} {ta : TE} (hK : X.K = K) (he : PE X e ta) (hb : attributeBase e g X.env (eval e X.env) = eval e X.env) : PE X (.Attribute e g pos) (tFld K ta g) := by
  subst hK
  exact pe_fld he hb
theorem allLv_step {fs : List Fm} {i : Nat} {f : Fm} (h : fs[i]? = some f) : allLv (fs.take (i + 1)) = allLv (fs.take i) ++ keyLevs f := by
  obtain ⟨hi, e⟩ := List.getElem?_eq_some_iff.mp h
  unfold allLv
  rw [List.take_succ_eq_append_getElem hi, List.flatMap_append, e]
  simp
theorem allLv_len {fs : List Fm} (h : ∀ f ∈ fs, FmOk f) : ∀ i, (allLv (fs.take i)).length ≤ 4 * i
  | 0 => by simp [allLv]
  | i + 1 => by
    have ih := allLv_len h i
    cases e : fs[i]? with
    | none =>
      have := List.getElem?_eq_none_iff.mp e
      rw [List.take_of_length_le (by omega)]
      rw [List.take_of_length_le this] at ih
      omega
    | some f =>
      have := keyLevs_len (h f (List.mem_of_getElem? e))
      rw [allLv_step e, List.length_append]
      omega
theorem keep_over {a b : Addr} {H H' : Hp} {o : HO} (n : H b = none) (k : Keep a H H') : Keep a H (upd H' b o) := fun x u hx e => by
  rw [upd_ne (ne_of_none e n)]
  exact k x u hx e
theorem keep_at {a : Addr} {H H' : Hp} {o : HO} (k : Keep a H H') : Keep a H (upd H' a o) := fun x u hx e => by
  rw [upd_ne hx]
  exact k x u hx e
theorem tupS_keep {a G dx : Addr} {fs : List (Str × V)} {H H' : Hp} (e : H a = some (.ins G dx fs)) (k : Keep a H H') : TupS H H' := fun x vs h => by
  rcases h with h | ⟨o, h⟩
  · exact .inl (k x _ (fun z => by rw [z, e] at h; cases h) h)
  · exact .inr ⟨o, k x _ (fun z => by rw [z, e] at h; cases h) h⟩
theorem tupS_ins {a G dx : Addr} {fs gs : List (Str × V)} {H : Hp} (e : H a = some (.ins G dx fs)) : TupS H (upd H a (.ins G dx gs)) := tupS_keep e (keep_at Keep.refl)
theorem nk_texts {H : Hp} : ∀ {p : List Str} {vs : List V}, NkAll H vs (p.map NestedKey.text) → vs = p.map V.str
  | [], _, .nil => rfl
  | x :: p, _, .cons h t => by
    cases h
    rw [nk_texts t]
    rfl
theorem nk_plc {H : Hp} {a : Addr} {p : List Str} (h : Nk H (.ref a) (plK p)) : Rd H a (.tup (p.map V.str)) := by
  cases h with
  | tup h t => rw [← nk_texts t]; exact h
theorem none_back {a b : Addr} {H H' : Hp} (k : Keep a H H') (ha : b ≠ a) (h : H' b = none) : H b = none := by
  cases z : H b with
  | none => rfl
  | some o =>
    rw [k b o ha z] at h
    cases h
/-- words, each with True -/
def trueK (ws : List Str) : List (Key × V) := ws.foldl (fun m x => putK m (.inr x) (.bl true)) []
theorem trueK_snoc (ws : List Str) (x : Str) : trueK (ws ++ [x]) = putK (trueK ws) (.inr x) (.bl true) := by
  unfold trueK
  rw [List.foldl_append]
  rfl
theorem trueK_len : ∀ (ws : List Str) (acc : List (Key × V)), (ws.foldl (fun m x => putK m (.inr x) (.bl true)) acc).length ≤ ws.length + acc.length
  | [], acc => by simp
  | x :: ws, acc => by
    rw [List.foldl_cons]
    have h1 := trueK_len ws (putK acc (.inr x) (.bl true))
    have h2 := length_putK acc (.inr x) (.bl true)
    rw [List.length_cons]
    omega
theorem dc_words {a D : Addr} {ws : List Str} {j : Nat} {vs : List Nat} {σ : L2.St} {H1 : Hp} {Qd : Hp → Prop} (n : H1 D = none) (ha : H1 a = some (.lst (ws.map V.str))) (hz : ws.length ≤ 1000) (hσ : ∀ x : V, wipe ((wipe σ vs).set j (some x)) vs = wipe σ vs) (hget : ∀ x : V, ((wipe σ vs).set j (some x))[j]? = some (some x))
    (hd : ∀ H, Same H1 H → H D = some (.dK (trueK ws)) → Qd H) :
    ∃ W : Nat → Nat → Hp → Prop, (∃ m, W 0 m (upd H1 D (.dK []))) ∧ ∀ i m H, W i m H →
      ((Itl K a).stop i H ∧ Qd H) ∨ ((Itl K a).go i H ∧ ∃ Nx : Hp → Prop, (∀ H', Nx H' → ∃ m', m' < m ∧ W (i + 1) m' H') ∧ ∀ x H', (Itl K a).yld i H x H' → gName j x (wipe σ vs) H' fun σ2 H2 => wipe σ2 vs = wipe σ vs ∧ tYes σ2 H2 fun b H3 =>
        if b = true then tVar j σ2 H3 fun y H4 => tC (.bl true) σ2 H4 fun z H5 => ∃ kvs k, y = kV k ∧ H5 D = some (.dK kvs) ∧ kvs.length < sizeLine ∧ Nx (upd H5 D (.dK (putK kvs k z))) else Nx H3) := by
  have hl : (ws.map V.str).length = ws.length := List.length_map ..
  refine ⟨fun i m H => m = ws.length - i ∧ i ≤ ws.length ∧ Same H1 H ∧ H D = some (.dK (trueK (ws.take i))), ⟨_, rfl, Nat.zero_le _, same_upd n, upd_same⟩, ?_⟩
  rintro i m H ⟨rfl, hi, s, e⟩
  have ea := s _ _ ha
  rcases Nat.lt_or_ge i ws.length with lt | ge
  · refine .inr ⟨⟨_, (ws.map V.str)[i]'(by omega), SqL.of ea, List.getElem?_eq_getElem (by omega)⟩, fun H' => Same H1 H' ∧ H' D = some (.dK (trueK (ws.take (i + 1)))), fun H' h => ⟨_, by omega, rfl, lt, h⟩, ?_⟩
    rintro x H' ⟨rfl, y⟩
    have hx := y _ (SqL.of ea)
    obtain ⟨z, hz2, rfl⟩ := get_strs hx
    refine ⟨hσ _, _, hget _, trueK (ws.take i), .inr z, rfl, e, ?_, same_over n s, ?_⟩
    · have := trueK_len (ws.take i) []
      have h1 : (trueK (ws.take i)).length ≤ (ws.take i).length + 0 := this
      rw [List.length_take] at h1
      have := sz 1001 (by decide)
      omega
    · obtain ⟨h1, h2⟩ := List.getElem?_eq_some_iff.mp hz2
      rw [upd_same, List.take_succ_eq_append_getElem h1, h2, trueK_snoc]
  · have : i = ws.length := by omega
    subst this
    rw [List.take_length] at e
    exact .inl ⟨⟨_, SqL.of ea, by rw [hl]; exact Nat.le_refl _⟩, hd H s e⟩
def spGram (P : Program) (w : World) (K : PySem.W.Frag) (G : Addr) : Sp := fun vs H Q _ => ∃ (a dx fl hl : Addr) (xs : List V) (fs : List Fm) (hard : List Str), vs = [.ref a, .ref fl, .ref hl] ∧ H a = some (.ins G dx []) ∧ H fl = some (.lst xs) ∧ Paired (FormR H) xs fs ∧ H hl = some (.lst (hard.map V.str)) ∧ fs.length ≤ 100 ∧ hard.length ≤ 1000 ∧ (∀ f ∈ fs, FmOk f) ∧
  ∀ d1 d2 d3 d4 d5 d6 H', Keep a H H' → H' a = some (.ins G dx [("told", .ref d5), ("answers", .ref d6), ("levels", .ref d1), ("follows", .ref d2), ("middles", .ref d3), ("hard_words", .ref d4)]) → DN P w H' d1 (kvI (lvFold (allLv fs))) → H' d3 = some (.dK (trueK (midsM (patsOf fs)))) → Q .non H'
theorem ok_gram {f fK fF fW fM G : Addr} {fd dK dF dW dM : FuncData} (F : Fun K "__init__" "Grammar.__init__" sGram f fd) (Z : GramC K G)
    (kK : PySem.W.keepIn K (.ref fK) = true) (GK : FnOk P w K mg base CX0 4 fK dK ["form"] spKeyLev) (bK : Binds K dK ["form"] []) (gK : mg "key_levels" = some (.ref fK))
    (kF : PySem.W.keepIn K (.ref fF) = true) (GF : FnOk P w K mg base CX0 1 fF dF ["patterns"] (spFoll P w K)) (bF : Binds K dF ["patterns"] []) (gF : mg "followers" = some (.ref fF))
    (kW : PySem.W.keepIn K (.ref fW) = true) (GW : FnOk P w K mg base CX0 1 fW dW ["place", "items", "levels"] (spWhat P w K)) (bW : Binds K dW ["place", "items", "levels"] []) (gW : mg "what_follows" = some (.ref fW))
    (mtu : mg "tuple" = none) (kM : PySem.W.keepIn K (.ref fM) = true) (GM : FnOk P w K mg base CX0 2 fM dM ["patterns"] (spSel K midsM)) (bM : Binds K dM ["patterns"] []) (gM : mg "middle_tokens" = some (.ref fM)) :
    FnOk P w K mg base CX0 5 f fd ["self", "forms", "hard"] (spGram P w K G) := by
  refine F.ok scGram (fun vs H Q E h => ?_) (fun cdv A outer s Hz vs Q E hr h => ?_)
  · obtain ⟨a, dx, fl, hl, xs, fs, hard, rfl, _⟩ := h
    rfl
  · obtain ⟨a, dx, fl, hl, xs, fs, hard, rfl, ha0, hS0, hp0, hH0, hz, hzh, hok, q0⟩ := h
    have nd := scGram.nd
    have hu9 : (A.deeper (envOfC "Grammar.__init__" (defScope sGram) s.heap.objs.size f cdv)).units + 9 < cLine := by have := hr.un; omega
    have r1 := hr.mono (by decide : 1 ≤ 4)
    have r2 := hr.mono (by decide : 2 ≤ 4)
    refine ⟨_, pss_cons (ps_fld (pv 0) (pe_tup (pa_cons (pe_tupleOf (by rfl) mtu (pv 1)) (pa_cons (pe_tupleOf (by rfl) mtu (pv 2)) pa_nil))) (by rfl))
      (pss_cons (ps_fld (pv 0) pe_dnewK (by rfl))
      (pss_cons (ps_setLc (i := 3) (own := [("form", 4)]) (g := gName 4) (tt := tYes) rfl nd rfl rfl (sw_true rfl rfl rfl (by decide +kernel)) (pi_list (pv 1)) (blkOk_by (own := [("form", 4)]) (N := nGram) (sc := defScope sGram) (by decide +kernel)) (fun _ _ _ _ _ => pg_name (i := 4) nd rfl (Or.inl rfl))
        (fun _ _ _ _ _ => pts_nil) (fun _ _ _ _ _ => pe_ix (r := rIxT K) ix_tup (pv 4) pe_int (fun _ _ => rfl)))
      (pss_cons (ps_fld (pv 0) pe_newN (by rfl))
      (pss_cons (ps_for PassesOwn.never rfl (pi_list (pv 1)) (pg_name (i := 4) nd rfl (.inl rfl))
        (pss_one (ps_for PassesOwn.never rfl (pi_list (pe_call GK hr (by rfl) gK kK bK .nil pass0 (pa_cons (pv 4) pa_nil))) (pg_tup (by rfl) (pgs_cons (pg_name (i := 5) nd rfl (.inl rfl)) (pgs_cons (pg_name (i := 6) nd rfl (.inl rfl)) pgs_nil)))
          (pss_one (ps_asg (pv 6) (pg_sub (pe_fld (pv 0) (by rfl)) (pv 5) (set_nd hu9)))))))
      (pss_cons (ps_set (i := 7) nd rfl (.inr rfl) (pe_call GF r1 (by rfl) gF kF bF .nil pass0 (pa_cons (pv 3) pa_nil)))
      (pss_cons (ps_fld (pv 0) (pe_dcN (own := [("place", 8)]) (g := gName 8) (tt := tYes) rfl hu9 nd (pi_keysN (pv 7)) (blkOk_by (own := [("place", 8)]) (N := nGram) (sc := defScope sGram) (by decide +kernel)) (fun _ _ _ _ _ => pg_name (i := 8) nd rfl (Or.inl rfl)) (fun _ _ _ _ _ => pts_nil) (fun _ _ _ _ _ => pv 8)
          (fun _ _ _ _ _ => pe_call GW r1 (by rfl) gW kW bW .nil pass0 (pa_cons (pv 8) (pa_cons (pe_ix (r := rGetN P w) (ix_nd hu9) (pv 7) (pv 8) (fun _ _ => rfl)) (pa_cons (pe_fldK (K := K) rfl (pv 0) (by rfl)) pa_nil))))) (by rfl))
      (pss_cons (ps_fld (pv 0) (pe_dc (own := [("token", 9)]) (g := gName 9) (tt := tYes) rfl nd (pi_list (pe_call GM r2 (by rfl) gM kM bM .nil pass0 (pa_cons (pv 3) pa_nil))) (blkOk_by (own := [("token", 9)]) (N := nGram) (sc := defScope sGram) (by decide +kernel)) (fun _ _ _ _ _ => pg_name (i := 9) nd rfl (Or.inl rfl)) (fun _ _ _ _ _ => pts_nil) (fun _ _ _ _ _ => pv 9) (fun _ _ _ _ _ => pe_bl)) (by rfl))
      (pss_one (ps_fld (pv 0) (pe_dc (own := [("word", 10)]) (g := gName 10) (tt := tYes) rfl nd (pi_list (pv 2)) (blkOk_by (own := [("word", 10)]) (N := nGram) (sc := defScope sGram) (by decide +kernel)) (fun _ _ _ _ _ => pg_name (i := 10) nd rfl (Or.inl rfl)) (fun _ _ _ _ _ => pts_nil) (fun _ _ _ _ _ => pv 10) (fun _ _ _ _ _ => pe_bl)) (by rfl)))))))))), ?_⟩
    have hx := pairs_len hp0
    refine ⟨.ref fl, rfl, .inl ⟨fl, xs, rfl, SqL.of hS0, fun t1 nt1 => ?_⟩⟩
    have v1 := same_upd (o := .tup xs) nt1
    refine ⟨.ref hl, rfl, .inl ⟨hl, hard.map V.str, rfl, SqL.of (v1 _ _ hH0), fun t2 nt2 => ?_⟩⟩
    have v2 := v1.trans (same_upd (o := .tup (hard.map V.str)) nt2)
    refine ⟨sz 2 (by decide), fun d5 nd5 => ?_⟩
    have v3 := v2.trans (same_upd (o := .tup [.ref t1, .ref t2]) nd5)
    refine ⟨_, rfl, a, G, dx, [], rfl, v3 _ _ ha0, Z.c, Z.n5, by decide, ?_⟩
    have put5 : putF (Str.ofString "told") (V.ref d5) [] = [(Str.ofString "told", V.ref d5)] := rfl
    rw [put5]
    refine fun d6 nd6 => ?_
    refine ⟨_, rfl, a, G, dx, _, rfl, (same_upd (o := .dK []) nd6) _ _ upd_same, Z.c, Z.n6, by simp, ?_⟩
    have put6 : putF (Str.ofString "answers") (V.ref d6) [(Str.ofString "told", V.ref d5)] = [(Str.ofString "told", V.ref d5), (Str.ofString "answers", V.ref d6)] := rfl
    rw [put6]
    have kz1 := keep_at (o := .ins G dx [(Str.ofString "told", V.ref d5)]) (Same.keep (a := a) v3)
    have kz2 := keep_at (o := .ins G dx [(Str.ofString "told", V.ref d5), (Str.ofString "answers", V.ref d6)]) (kz1.trans (Same.keep (a := a) (same_upd (o := .dK []) nd6)))
    obtain ⟨H, eH⟩ : ∃ H, H = upd (upd (upd (upd (upd (upd Hz t1 (.tup xs)) t2 (.tup (hard.map V.str))) d5 (.tup [.ref t1, .ref t2])) a (.ins G dx [(Str.ofString "told", V.ref d5)])) d6 (.dK [])) a (.ins G dx [(Str.ofString "told", V.ref d5), (Str.ofString "answers", V.ref d6)]) := ⟨_, rfl⟩
    rw [← eH] at kz2 ⊢
    have ha : H a = some (.ins G dx [(Str.ofString "told", V.ref d5), (Str.ofString "answers", V.ref d6)]) := by rw [eH]; exact upd_same
    have hS : H fl = some (.lst xs) := kz2 _ _ (fun z => by rw [z, ha0] at hS0; cases hS0) hS0
    have hH : H hl = some (.lst (hard.map V.str)) := kz2 _ _ (fun z => by rw [z, ha0] at hH0; cases hH0) hH0
    have hp : Paired (FormR H) xs fs := prs_keep (fun h => h.keep (tupS_keep ha0 kz2)) hp0
    have q := fun d1 d2 d3 d4 H' (k : Keep a H H') => q0 d1 d2 d3 d4 d5 d6 H' (kz2.trans k)
    clear q0 hp0 kz1 v1 v2 v3
    have hfl : fl ≠ a := fun z => by rw [z, ha] at hS; cases hS
    have hhl : hl ≠ a := fun z => by rw [z, ha] at hH; cases hH
    refine ⟨_, rfl, fl, rfl, ⟨_, SqL.of hS⟩, fun D nD => ?_⟩
    refine lc_list (xs := xs) (fun i H' => Same H H' ∧ ∃ ys, H' D = some (.lst ys) ∧ ys.length ≤ i ∧ Paired (PatR H') ys (patsOf (fs.take i))) ⟨same_upd nD, [], upd_same, Nat.le_refl _, .nil⟩ (fun i H' _ h => SqL.of (h.1 _ _ hS)) ?_ ?_
    · rintro i x H1 hxi ⟨s1, ys, eD, hl2, hys⟩
      obtain ⟨fm, hfi, af, ap, al, rfl, h1, h2, h3⟩ := prs_get hp hxi
      have hi := (List.getElem?_eq_some_iff.mp hfi).1
      refine ⟨rfl, _, rfl, af, _, _, _, rfl, rfl, .inl (rd_same s1 h1), atI_nat (j := 0) rfl, ys, eD, sz _ (by omega), same_over nD s1, ys ++ [.ref ap], upd_same, by rw [List.length_append, List.length_singleton]; omega, ?_⟩
      obtain ⟨hi2, e⟩ := List.getElem?_eq_some_iff.mp hfi
      unfold patsOf
      rw [List.take_succ_eq_append_getElem hi2, List.map_append, e]
      exact pairs_snoc (prs_keep (fun h => h.keep (tupS_lst eD)) hys) ⟨ap, rfl, tupS_lst eD _ _ (rd_same s1 h2)⟩
    · rintro H1 ⟨s1, ys, eD, hly, hys⟩
      rw [hx, List.take_length] at hys
      have ha1 := s1 _ _ ha
      refine fun d1 φ1 n1 hD1 => ?_
      have n1H : H d1 = none := by
        cases z : H d1 with
        | none => rfl
        | some o =>
          rw [s1 _ _ z] at n1
          cases n1
      have d1a : d1 ≠ a := fun z => by rw [z, ha] at n1H; cases n1H
      have nDH : D ≠ a := fun z => by rw [z, ha] at nD; cases nD
      have ha2 : (upd H1 d1 (.ext φ1)) a = some (.ins G dx [(Str.ofString "told", V.ref d5), (Str.ofString "answers", V.ref d6)]) := by rw [upd_ne d1a.symm]; exact ha1
      refine ⟨_, rfl, a, G, dx, _, rfl, ha2, Z.c, Z.n1, by simp, ?_⟩
      have putE : putF (Str.ofString "levels") (V.ref d1) [(Str.ofString "told", V.ref d5), (Str.ofString "answers", V.ref d6)] = [(Str.ofString "told", V.ref d5), (Str.ofString "answers", V.ref d6), (Str.ofString "levels", V.ref d1)] := rfl
      rw [putE]
      obtain ⟨H2, eH2⟩ : ∃ H2, H2 = upd (upd H1 d1 (.ext φ1)) a (.ins G dx [(Str.ofString "told", V.ref d5), (Str.ofString "answers", V.ref d6), (Str.ofString "levels", V.ref d1)]) := ⟨_, rfl⟩
      rw [← eH2]
      have k12 : Keep a H1 H2 := by rw [eH2]; exact keep_at (keep_over n1 Keep.refl)
      have k2 : Keep a H H2 := (Same.keep s1).trans k12
      have a2 : H2 a = some (.ins G dx [(Str.ofString "told", V.ref d5), (Str.ofString "answers", V.ref d6), (Str.ofString "levels", V.ref d1)]) := by rw [eH2]; exact upd_same
      have hD2 : DN P w H2 d1 (kvI (lvFold (allLv (fs.take 0)))) := by
        rw [eH2]
        exact DN.keep (tupS_ins ha2) (fun o e => by rw [upd_ne d1a]; exact e) hD1
      have eD2 : H2 D = some (.lst ys) := k12 _ _ nDH eD
      refine ⟨_, rfl, fl, rfl, ⟨_, SqL.of (k2 _ _ hfl hS)⟩, for_list (xs := xs) (fun i σ H' => Keep a H H' ∧ H' a = some (.ins G dx [(Str.ofString "told", V.ref d5), (Str.ofString "answers", V.ref d6), (Str.ofString "levels", V.ref d1)]) ∧ H' D = some (.lst ys) ∧ Paired (PatR H') ys (patsOf fs) ∧ DN P w H' d1 (kvI (lvFold (allLv (fs.take i)))) ∧ ∃ y4 y5 y6 : Option V, σ = [some (.ref a), some (.ref fl), some (.ref hl), some (.ref D), y4, y5, y6, none, none, none, none])
        ⟨k2, a2, eD2, prs_keep (fun h => h.keep (tupS_keep ha1 k12)) hys, hD2, _, _, _, rfl⟩ (fun i σ H' _ h => SqL.of (h.1 _ _ hfl hS)) ?_ ?_⟩
      · rintro i x σ H3 hxi ⟨k3, a3, eD3, hys3, hD3, y4, y5, y6, rfl⟩
        obtain ⟨fm, hfi, hfm⟩ := prs_get hp hxi
        have hfo := hok fm (List.mem_of_getElem? hfi)
        have hi := (List.getElem?_eq_some_iff.mp hfi).1
        refine ⟨_, rfl, x, fm, rfl, hfm.keep (tupS_keep ha k3), hfo, fun b ts H4 s4 eb hk => ?_⟩
        have l4 := keyLevs_len hfo
        have hkl := pairs_len hk
        have ab : b ≠ a := fun z => by rw [z, s4 _ _ a3] at eb; cases eb
        refine ⟨b, rfl, ⟨_, SqL.of eb⟩, for_list (xs := ts) (fun j σ H' => Keep a H H' ∧ H' a = some (.ins G dx [(Str.ofString "told", V.ref d5), (Str.ofString "answers", V.ref d6), (Str.ofString "levels", V.ref d1)]) ∧ H' D = some (.lst ys) ∧ Paired (PatR H') ys (patsOf fs) ∧ H' b = some (.lst ts) ∧ KlAll H' ts (keyLevs fm) ∧ DN P w H' d1 (kvI (lvFold (allLv (fs.take i) ++ (keyLevs fm).take j))) ∧ ∃ y5 y6 : Option V, σ = [some (.ref a), some (.ref fl), some (.ref hl), some (.ref D), some x, y5, y6, none, none, none, none])
          ⟨k3.trans (Same.keep s4), s4 _ _ a3, s4 _ _ eD3, prs_keep (fun h => h.keep (TupS.of s4)) hys3, eb, hk, by rw [List.take_zero, List.append_nil]; exact hD3.same s4, y5, y6, rfl⟩ (fun j σ H' _ h => SqL.of h.2.2.2.2.1) ?_ ?_⟩
        · rintro j y σ H5 hyj ⟨k5, a5, eD5, hys5, eb5, hk5, hD5, z5, z6, rfl⟩
          obtain ⟨⟨key, lev⟩, hqj, ta, ka, rfl, htup, hkey⟩ := prs_get hk5 hyj
          have hj := (List.getElem?_eq_some_iff.mp hqj).1
          refine ⟨ta, _, rfl, .inl htup, rfl, _, _, rfl, _, _, rfl, rfl, ?_⟩
          have hlen := allLv_len hok i
          have hfold : (lvFold (allLv (fs.take i) ++ (keyLevs fm).take j)).length ≤ (allLv (fs.take i) ++ (keyLevs fm).take j).length + 0 := lvFold_len _ []
          rw [List.length_append, List.length_take] at hfold
          refine ⟨_, rfl, _, rfl, a, G, dx, _, _, rfl, a5, Z.c, Z.n1, rfl, _, rfl, d1, ka, key, _, rfl, rfl, hD5, hkey, keyLevs_depth _ (List.mem_of_getElem? hqj), ?_, fun φ hD6 => ?_⟩
          · unfold kvI
            rw [List.length_map]
            omega
          · obtain ⟨φ0, hd0⟩ := DN.at_ext hD5
            have hDd : D ≠ d1 := fun z => by rw [z, hd0] at eD5; cases eD5
            have hbd : b ≠ d1 := fun z => by rw [z, hd0] at eb5; cases eb5
            have ts5 := tupS_ext (φ := φ) hd0
            refine ⟨keep_over n1H k5, by rw [upd_ne d1a.symm]; exact a5, by rw [upd_ne hDd]; exact eD5, prs_keep (fun h => h.keep ts5) hys5, by rw [upd_ne hbd]; exact eb5, klAll_keep ts5 hk5, ?_, _, _, rfl⟩
            obtain ⟨_, e2⟩ := List.getElem?_eq_some_iff.mp hqj
            rw [List.take_succ_eq_append_getElem hj, e2, ← List.append_assoc, lvFold_snoc, kvI_put]
            exact hD6
        · rintro σ H5 ⟨k5, a5, eD5, hys5, eb5, hk5, hD5, z5, z6, rfl⟩
          rw [hkl, List.take_length, ← allLv_step hfi] at hD5
          exact ⟨k5, a5, eD5, hys5, hD5, _, z5, z6, rfl⟩
      · rintro σ H3 ⟨k3, a3, eD3, hys3, hD3, y4, y5, y6, rfl⟩
        rw [hx, List.take_length] at hD3
        have hpl : (patsOf fs).length ≤ 100 := by unfold patsOf; rw [List.length_map]; exact hz
        have hpo : ∀ p ∈ patsOf fs, PatOk p := fun p hp => by
          obtain ⟨f, hf, rfl⟩ := List.mem_map.mp hp
          exact (hok f hf).pat
        refine ⟨_, rfl, D, ys, patsOf fs, rfl, SqL.of eD3, hys3, by omega, hpo, fun d0 H5 F5 => ?_⟩
        obtain ⟨las, hD0, hnd, hls⟩ := F5.ex
        have s5 := F5.same
        have hnd2 := DN.nodup hD0
        have a5 := s5 _ _ a3
        have hD5 := hD3.same s5
        refine ⟨_, rfl, d0, _, rfl, hD0, fun xs' ep e1 hp1 D2 φ2 n2 hDN2 => ?_⟩
        refine ⟨fun i m H' => m = (kvF (folOf (patsOf fs)) las).length - i ∧ i ≤ (kvF (folOf (patsOf fs)) las).length ∧ Same H5 H' ∧ ∃ kvs, DN P w H' D2 kvs ∧ kvs.length ≤ i, ⟨_, rfl, Nat.zero_le _, same_upd n2, [], hDN2, Nat.le_refl _⟩, ?_⟩
        have flen := F5.len
        have klen : (kvF (folOf (patsOf fs)) las).length ≤ 700 := by
          unfold kvF
          rw [List.length_zipWith]
          omega
        rintro i m H6 ⟨rfl, hi, s6, kvs, hDk, hkl⟩
        have e6 := s6 _ _ e1
        have p6 := ents_keep (TupS.of s6) hp1
        rcases Nat.lt_or_ge i (kvF (folOf (patsOf fs)) las).length with lt | ge
        · refine .inr ⟨⟨e6, p6, lt⟩, fun H' => Same H5 H' ∧ ∃ kvs, DN P w H' D2 kvs ∧ kvs.length ≤ i + 1, fun H' h' => ⟨_, by omega, rfl, lt, h'⟩, ?_⟩
          rintro x H6' ⟨rfl, k, v, a2', hk, rfl, hNk⟩
          obtain ⟨q0, la, hm, hla, rfl, rfl⟩ := kvF_get hk
          have hget := atN_get hnd2 hk
          have hq0 := ls_get hls hla hm
          have hq2 := s6 _ _ hq0.2
          have hq0m := List.mem_of_getElem? hm
          have hlen := F5.lens q0 hq0m
          refine ⟨rfl, _, rfl, _, rfl, _, rfl, _, rfl, d0, a2', plK q0.1, _, .ref la, rfl, rfl, hD0.same s6, hNk, plK_depth _, hget, ?_⟩
          refine ⟨_, rfl, a, G, dx, _, _, rfl, s6 _ _ a5, Z.c, Z.n1, rfl, ?_⟩
          refine ⟨a2', la, d1, q0.1, q0.2, _, rfl, nk_plc hNk, SqL.of hq2, by omega, ?_, fol_ne hq0m, hD5.same s6, fun hh => ?_, fun v H7 s7 _ => ?_⟩
          · obtain ⟨h1, h2⟩ := fol_from hq0m
            obtain ⟨x, hx⟩ := List.exists_mem_of_ne_nil _ h1
            obtain ⟨p, hp, j, hj, e, _⟩ := h2 x hx
            have := (hpo p hp).len7
            rw [e, List.length_take]
            omega
          · obtain ⟨i0, hi0⟩ := fol_hole hok hq0m hh
            exact lvFold_at hi0
          · refine ⟨a2', plK q0.1, kvs, rfl, hDk.same s7, hNk.keep (TupS.of s7), plK_depth _, by omega, fun φ hD8 => ⟨same_over n2 (s6.trans s7), _, hD8, ?_⟩⟩
            unfold putN
            split
            · rw [List.length_map]
              omega
            · rw [List.length_append, List.length_singleton]
              omega
        · have hin : i = (kvF (folOf (patsOf fs)) las).length := by omega
          refine .inl ⟨⟨e6, p6, ge⟩, ?_⟩
          have a6 := s6 _ _ a5
          have D2a : D2 ≠ a := fun z => by rw [z, a5] at n2; cases n2
          have d1a2 := d1a
          refine ⟨_, rfl, a, G, dx, _, rfl, a6, Z.c, Z.n2, by simp, ?_⟩
          have put2 : putF (Str.ofString "follows") (V.ref D2) [(Str.ofString "told", V.ref d5), (Str.ofString "answers", V.ref d6), (Str.ofString "levels", V.ref d1)] = [(Str.ofString "told", V.ref d5), (Str.ofString "answers", V.ref d6), (Str.ofString "levels", V.ref d1), (Str.ofString "follows", V.ref D2)] := rfl
          rw [put2]
          obtain ⟨H7, eH7⟩ : ∃ H7, H7 = upd H6 a (.ins G dx [(Str.ofString "told", V.ref d5), (Str.ofString "answers", V.ref d6), (Str.ofString "levels", V.ref d1), (Str.ofString "follows", V.ref D2)]) := ⟨_, rfl⟩
          rw [← eH7]
          have k67 : Keep a H6 H7 := by rw [eH7]; exact keep_at Keep.refl
          have s36 := s5.trans s6
          have k37 : Keep a H3 H7 := (Same.keep s36).trans k67
          have a7 : H7 a = some (.ins G dx [(Str.ofString "told", V.ref d5), (Str.ofString "answers", V.ref d6), (Str.ofString "levels", V.ref d1), (Str.ofString "follows", V.ref D2)]) := by rw [eH7]; exact upd_same
          have hD7 : DN P w H7 d1 (kvI (lvFold (allLv fs))) := by
            rw [eH7]
            exact DN.keep (tupS_ins a6) (fun o e => by rw [upd_ne d1a]; exact e) (hD3.same s36)
          refine ⟨_, rfl, D, ys, patsOf fs, rfl, SqL.of (k37 _ _ nDH eD3), prs_keep (fun h => h.keep (tupS_keep a3 k37)) hys3, by omega, hpo, fun b2 H8 s8 eb8 => ?_⟩
          have hmi : (midsM (patsOf fs)).length ≤ 700 := by
            have h1 := mids_len (ps := patsOf fs) (fun p hp => (hpo p hp).len7) (patsOf fs).length
            rw [List.take_length] at h1
            omega
          refine ⟨b2, rfl, ⟨_, SqL.of eb8⟩, fun D3 n3 => ?_⟩
          refine dc_words (ws := midsM (patsOf fs)) n3 eb8 (by omega) (fun _ => rfl) (fun _ => rfl) fun H9 s9 e9 => ?_
          have a9 := s9 _ _ (s8 _ _ a7)
          refine ⟨_, rfl, a, G, dx, _, rfl, a9, Z.c, Z.n3, by simp, ?_⟩
          have put3 : putF (Str.ofString "middles") (V.ref D3) [(Str.ofString "told", V.ref d5), (Str.ofString "answers", V.ref d6), (Str.ofString "levels", V.ref d1), (Str.ofString "follows", V.ref D2)] = [(Str.ofString "told", V.ref d5), (Str.ofString "answers", V.ref d6), (Str.ofString "levels", V.ref d1), (Str.ofString "follows", V.ref D2), (Str.ofString "middles", V.ref D3)] := rfl
          rw [put3]
          have s79 := s8.trans s9
          have D3a : D3 ≠ a := fun z => by rw [z, s8 _ _ a7] at n3; cases n3
          obtain ⟨HA, eHA⟩ : ∃ HA, HA = upd H9 a (.ins G dx [(Str.ofString "told", V.ref d5), (Str.ofString "answers", V.ref d6), (Str.ofString "levels", V.ref d1), (Str.ofString "follows", V.ref D2), (Str.ofString "middles", V.ref D3)]) := ⟨_, rfl⟩
          rw [← eHA]
          have k9A : Keep a H9 HA := by rw [eHA]; exact keep_at Keep.refl
          have kA : Keep a H HA := (k3.trans k37).trans ((Same.keep s79).trans k9A)
          have aA : HA a = some (.ins G dx [(Str.ofString "told", V.ref d5), (Str.ofString "answers", V.ref d6), (Str.ofString "levels", V.ref d1), (Str.ofString "follows", V.ref D2), (Str.ofString "middles", V.ref D3)]) := by rw [eHA]; exact upd_same
          have hDA : DN P w HA d1 (kvI (lvFold (allLv fs))) := by
            rw [eHA]
            exact DN.keep (tupS_ins a9) (fun o e => by rw [upd_ne d1a]; exact e) (hD7.same s79)
          have e3A : HA D3 = some (.dK (trueK (midsM (patsOf fs)))) := k9A _ _ D3a e9
          refine ⟨_, rfl, hl, rfl, ⟨_, SqL.of (kA _ _ hhl hH)⟩, fun D4 n4 => ?_⟩
          refine dc_words (ws := hard) n4 (kA _ _ hhl hH) hzh (fun _ => rfl) (fun _ => rfl) fun HB sB eB => ?_
          have aB := sB _ _ aA
          refine ⟨_, rfl, a, G, dx, _, rfl, aB, Z.c, Z.n4, by simp, ?_⟩
          have put4 : putF (Str.ofString "hard_words") (V.ref D4) [(Str.ofString "told", V.ref d5), (Str.ofString "answers", V.ref d6), (Str.ofString "levels", V.ref d1), (Str.ofString "follows", V.ref D2), (Str.ofString "middles", V.ref D3)] = [(Str.ofString "told", V.ref d5), (Str.ofString "answers", V.ref d6), (Str.ofString "levels", V.ref d1), (Str.ofString "follows", V.ref D2), (Str.ofString "middles", V.ref D3), (Str.ofString "hard_words", V.ref D4)] := rfl
          rw [put4]
          refine q d1 D2 D3 D4 _ (keep_at (kA.trans (Same.keep sB))) upd_same ?_ ?_
          · exact DN.keep (tupS_ins aB) (fun o e => by rw [upd_ne d1a]; exact e) (hDA.same sB)
          · rw [upd_ne D3a]
            exact sB _ _ e3A
end
end K2

set_option Elab.async false
set_option linter.all false
set_option maxRecDepth 100000
set_option maxHeartbeats 8000000
/-! k03: forms and words sorted -/
namespace K2
open PySem PySem.Spec PyProof.Rows L2 EL LW ND
open Ln (L isWord isSign isTok)
open PySem.EV (ErrC ErrI)
def datF (f : Fm) : PyData := .tuple [datP f.pat, .int f.lev, .tuple (f.levs.map PyData.int)]
def srtF (fs : List Fm) : List Fm := fs.mergeSort (PySem.W.dataLe false datF)
def srtS (ws : List Str) : List Str := ws.mergeSort (PySem.W.dataLe false PyData.str)
theorem srtF_perm (fs : List Fm) : (srtF fs).Perm fs := List.mergeSort_perm _ _
theorem srtS_perm (ws : List Str) : (srtS ws).Perm ws := List.mergeSort_perm _ _
theorem alike_strs : ∀ xs ys : List Str, PySem.W.alikeAll (xs.map .str) (ys.map .str) = true
  | [], _ => by simp [PySem.W.alikeAll]
  | _ :: _, [] => by simp [PySem.W.alikeAll]
  | x :: xs, y :: ys => by
    show PySem.W.alikeAll (.str x :: xs.map .str) (.str y :: ys.map .str) = true
    rw [PySem.W.alikeAll, alike_strs xs ys]
    rfl
theorem alike_forms (f g : Fm) : PySem.W.alike (datF f) (datF g) = true := by
  show PySem.W.alikeAll [datP f.pat, .int f.lev, .tuple (f.levs.map PyData.int)] [datP g.pat, .int g.lev, .tuple (g.levs.map PyData.int)] = true
  have h1 : PySem.W.alike (datP f.pat) (datP g.pat) = true := by
    show PySem.W.alike (.tuple _) (.tuple _) = true
    rw [PySem.W.alike]
    exact alike_strs _ _
  have h2 : PySem.W.alike (.tuple (f.levs.map PyData.int)) (.tuple (g.levs.map PyData.int)) = true := by
    rw [PySem.W.alike]
    exact PySem.W.alike_ints _ _
  rw [PySem.W.alikeAll, h1, PySem.W.alikeAll, PySem.W.alikeAll, h2]
  rfl
theorem ints_dp {K : PySem.W.Frag} {H : Hp} : ∀ p : List Int, DpAll K H (p.map V.int) (p.map PyData.int)
  | [] => .nil
  | x :: p => .cons (.int x) (ints_dp p)
theorem form_dp {K : PySem.W.Frag} {H : Hp} {v : V} {f : Fm} : FormR H v f → Dp K H v (datF f) := fun ⟨a, ap, al, e, h1, h2, h3⟩ => by
  subst e
  exact .tup (.inl h1) (.cons (.tup (.inl h2) (strs_dp _)) (.cons (.int _) (.cons (.tup (.inl h3) (ints_dp _)) .nil)))
theorem depth_ints : ∀ p : List Int, PyData.depthAll (p.map PyData.int) = 0
  | [] => rfl
  | t :: ts => by
    show max (PyData.depth (.int t)) (PyData.depthAll (ts.map PyData.int)) = 0
    rw [depth_ints ts]
    rfl
theorem datF_depth (f : Fm) : (datF f).depth = 2 := by
  show PyData.depthAll [datP f.pat, .int f.lev, .tuple (f.levs.map PyData.int)] + 1 = 2
  show max (PyData.depthAll (f.pat.map PyData.str) + 1) (max 0 (max (PyData.depthAll (f.levs.map PyData.int) + 1) 0)) + 1 = 2
  rw [strs_depth, depth_ints]
  rfl
/-- values beside what they are -/
theorem paired_zip {α : Type} {F : V → α → Prop} : ∀ {xs : List V} {as : List α}, Paired F xs as → ∃ zs : List (V × α), xs = zs.map Prod.fst ∧ as = zs.map Prod.snd ∧ ∀ z ∈ zs, F z.1 z.2
  | _, _, .nil => ⟨[], rfl, rfl, fun z hz => by cases hz⟩
  | _, _, .cons h t => by
    obtain ⟨zs, e1, e2, e3⟩ := paired_zip t
    refine ⟨(_, _) :: zs, by rw [e1]; rfl, by rw [e2]; rfl, fun z hz => ?_⟩
    rcases List.mem_cons.mp hz with rfl | hz
    · exact h
    · exact e3 z hz
theorem zip_paired {α : Type} {F : V → α → Prop} : ∀ {zs : List (V × α)}, (∀ z ∈ zs, F z.1 z.2) → Paired F (zs.map Prod.fst) (zs.map Prod.snd)
  | [], _ => .nil
  | z :: zs, h => .cons (h z List.mem_cons_self) (zip_paired fun y hy => h y (List.mem_cons_of_mem _ hy))
theorem sort_forms {K : PySem.W.Frag} {H : Hp} {a : Addr} {xs : List V} {fs : List Fm} {Q : VK} (hS : SqL K H a xs) (hp : Paired (FormR H) xs fs) (hz : fs.length ≤ 100000)
    (q : ∀ d ys, H d = none → Paired (FormR (upd H d (.lst ys))) ys (srtF fs) → Q (.ref d) (upd H d (.lst ys))) : rSortD K 2 [.ref a] H Q := by
  obtain ⟨zs, rfl, rfl, hz2⟩ := paired_zip hp
  have e1 : (zs.map fun z => (z.1, datF z.2)).map Prod.fst = zs.map Prod.fst := by rw [List.map_map]; rfl
  have e2 : (zs.map fun z => (z.1, datF z.2)).map Prod.snd = (zs.map Prod.snd).map datF := by rw [List.map_map, List.map_map]; rfl
  refine ⟨a, zs.map fun z => (z.1, datF z.2), rfl, by rw [e1]; exact hS, fun p hp => ?_, ?_, ?_, by rw [List.length_map] at hz ⊢; exact hz, fun p hp => ?_, fun d nd => ?_⟩
  · obtain ⟨z, hz3, rfl⟩ := List.mem_map.mp hp
    exact form_dp (hz2 z hz3)
  · rw [e2]
    exact PySem.W.AllAlike.of alike_forms
  · rw [e2]
    exact PySem.W.Sortable.tuples fun b => ⟨_, _, rfl⟩
  · obtain ⟨z, hz3, rfl⟩ := List.mem_map.mp hp
    exact Nat.le_of_eq (datF_depth z.2)
  · have e3 : srtD (zs.map fun z => (z.1, datF z.2)) = (zs.mergeSort (PySem.W.dataLe false fun z => datF z.2)).map fun z => (z.1, datF z.2) := by
      unfold srtD
      rw [List.map_mergeSort]
      intro x _ y _
      rfl
    have e4 : (srtD (zs.map fun z => (z.1, datF z.2))).map Prod.fst = (zs.mergeSort (PySem.W.dataLe false fun z => datF z.2)).map Prod.fst := by rw [e3, List.map_map]; rfl
    have e5 : srtF (zs.map Prod.snd) = (zs.mergeSort (PySem.W.dataLe false fun z => datF z.2)).map Prod.snd := by
      unfold srtF
      rw [List.map_mergeSort]
      intro x _ y _
      rfl
    rw [e4]
    refine q d _ nd ?_
    rw [e5]
    exact zip_paired fun z hz3 => (hz2 z ((List.mergeSort_perm _ _).mem_iff.mp hz3)).keep (TupS.of (same_upd nd))
theorem sort_words {K : PySem.W.Frag} {H : Hp} {a : Addr} {ws : List Str} {u : Nat} {Q : VK} (hS : SqL K H a (ws.map V.str)) (hz : ws.length ≤ 100000) (q : ∀ d, H d = none → Q (.ref d) (upd H d (.lst ((srtS ws).map V.str)))) : rSortD K u [.ref a] H Q := by
  have e1 : (ws.map fun x => (V.str x, PyData.str x)).map Prod.fst = ws.map V.str := by rw [List.map_map]; rfl
  have e2 : (ws.map fun x => (V.str x, PyData.str x)).map Prod.snd = ws.map PyData.str := by rw [List.map_map]; rfl
  refine ⟨a, ws.map fun x => (V.str x, PyData.str x), rfl, by rw [e1]; exact hS, fun p hp => ?_, ?_, ?_, by rw [List.length_map]; exact hz, fun p hp => ?_, fun d nd => ?_⟩
  · obtain ⟨x, _, rfl⟩ := List.mem_map.mp hp
    exact .str x
  · rw [e2]
    exact PySem.W.AllAlike.of fun _ _ => rfl
  · rw [e2]
    exact PySem.W.Sortable.others fun b => ⟨fun z => (nomatch z), fun xs z => (nomatch z)⟩
  · obtain ⟨x, _, rfl⟩ := List.mem_map.mp hp
    exact Nat.zero_le _
  · have e3 : srtD (ws.map fun x => (V.str x, PyData.str x)) = (srtS ws).map fun x => (V.str x, PyData.str x) := by
      unfold srtD srtS
      rw [List.map_mergeSort]
      intro x _ y _
      rfl
    rw [e3, List.map_map]
    exact q d nd
end K2

set_option Elab.async false
set_option linter.all false
set_option maxRecDepth 100000
set_option maxHeartbeats 8000000
/-! k03: editions made -/
namespace K2
open PySem PySem.Spec PyProof.Rows L2 EL LW ND
open Ln (L isWord isSign isTok)
open PySem.EV (ErrC ErrI)
abbrev sEdit : Stmt := meth 57 0
theorem scEdit : FnScope ["self", "forms", "hard", "clash"] ["self", "forms", "hard"] (defScope sEdit) := ⟨rfl, rfl, rfl, by decide +kernel, rfl, by decide +kernel, by decide +kernel⟩
structure EditC (K : PySem.W.Frag) (G : Addr) : Prop where
  c : L2.Cls K G
  n1 : NoAttr K G "_forms"
  n2 : NoAttr K G "_hard"
  n3 : NoAttr K G "grammar"
/-- the tables that belong to these forms -/
def GramAt (P : Program) (w : World) (G : Addr) (H : Hp) (g : Addr) (fs : List Fm) : Prop := ∃ dx d1 d2 d3 d4 d5 d6, H g = some (.ins G dx [("told", .ref d5), ("answers", .ref d6), ("levels", .ref d1), ("follows", .ref d2), ("middles", .ref d3), ("hard_words", .ref d4)]) ∧ DN P w H d1 (kvI (lvFold (allLv fs))) ∧ H d3 = some (.dK (trueK (midsM (patsOf fs))))
theorem GramAt.same {P : Program} {w : World} {G : Addr} {H H' : Hp} {g : Addr} {fs : List Fm} (s : Same H H') : GramAt P w G H g fs → GramAt P w G H' g fs := fun ⟨dx, d1, d2, d3, d4, d5, d6, a, b, c⟩ => ⟨dx, d1, d2, d3, d4, d5, d6, s _ _ a, b.same s, s _ _ c⟩
section
variable {P : Program} {w : World} {K : PySem.W.Frag} {mg : Str → Option Value} {base : Heap} {C T I : Addr}
/-- an edition of these forms -/
def EditAt (P : Program) (w : World) (D G : Addr) (H : Hp) (a : Addr) (fs : List Fm) (hard : List Str) : Prop := ∃ dx l1 l2 g ys, H a = some (.ins D dx [("_forms", .ref l1), ("_hard", .ref l2), ("grammar", .ref g)]) ∧ H l1 = some (.lst ys) ∧ Paired (FormR H) ys (srtF fs) ∧ H l2 = some (.lst ((srtS hard).map V.str)) ∧ GramAt P w G H g (srtF fs)
/-- and its two lists are new ones -/
def EditAtF (P : Program) (w : World) (D G : Addr) (H0 H : Hp) (a : Addr) (fs : List Fm) (hard : List Str) : Prop := ∃ dx l1 l2 g ys, H0 l1 = none ∧ H0 l2 = none ∧ H a = some (.ins D dx [("_forms", .ref l1), ("_hard", .ref l2), ("grammar", .ref g)]) ∧ H l1 = some (.lst ys) ∧ Paired (FormR H) ys (srtF fs) ∧ H l2 = some (.lst ((srtS hard).map V.str)) ∧ GramAt P w G H g (srtF fs)
theorem EditAtF.at {P : Program} {w : World} {D G : Addr} {H0 H : Hp} {a : Addr} {fs : List Fm} {hard : List Str} : EditAtF P w D G H0 H a fs hard → EditAt P w D G H a fs hard := fun ⟨dx, l1, l2, g, ys, _, _, h⟩ => ⟨dx, l1, l2, g, ys, h⟩
def spEdit (P : Program) (w : World) (D G : Addr) : Sp := fun vs H Q _ => ∃ (a dx fl hl : Addr) (xs : List V) (fs : List Fm) (hard : List Str), vs = [.ref a, .ref fl, .ref hl] ∧ H a = some (.ins D dx []) ∧ H fl = some (.lst xs) ∧ Paired (FormAt H) xs fs ∧ H hl = some (.lst (hard.map V.str)) ∧ hard.length ≤ 1000 ∧ (∀ x ∈ hard, x.length ≤ 1000 ∧ isWord (cp x) = true) ∧ hard.Nodup ∧ Sound fs hard ∧
  ∀ H', Keep a H H' → EditAtF P w D G H H' a fs hard → Q .non H'
theorem ok_edit {f fA fG D G : Addr} {fd dA dG : FuncData} (F : Fun K "__init__" "Edition.__init__" sEdit f fd) (Z : EditC K D)
    (kA : PySem.W.keepIn K (.ref fA) = true) (GA : FnOk P w K mg base CX0 8 fA dA ["forms", "hard"] spClash) (bA : Binds K dA ["forms", "hard"] []) (gA : mg "first_clash" = some (.ref fA))
    (M : Mk K G fG) (GG : FnOk P w K mg base CX0 5 fG dG ["self", "forms", "hard"] (spGram P w K G)) (bG : Binds K dG ["self", "forms", "hard"] []) (gG : mg "Grammar" = some (.ref G)) (ms : mg "sorted" = none) :
    FnOk P w K mg base CX0 9 f fd ["self", "forms", "hard"] (spEdit P w D G) := by
  refine F.ok scEdit (fun vs H Q E h => ?_) (fun cdv A outer s H vs Q E hr h => ?_)
  · obtain ⟨a, dx, fl, hl, xs, fs, hard, rfl, _⟩ := h
    rfl
  · obtain ⟨a, dx, fl, hl, xs, fs, hard, rfl, ha, hS, hp, hH, hz, hw, hnd, hso, q⟩ := h
    have nd := scEdit.nd
    have hu4 : (A.deeper (envOfC "Edition.__init__" (defScope sEdit) s.heap.objs.size f cdv)).units + 2 + 2 < cLine := by have := hr.un; omega
    have r6 := hr.mono (by decide : 6 ≤ 8)
    refine ⟨_, pss_cons (ps_set (i := 3) nd rfl (.inl rfl) (pe_call GA hr (by rfl) gA kA bA .nil pass0 (pa_cons (pv 1) (pa_cons (pv 2) pa_nil))))
      (pss_cons (ps_if (pt_cmpR op_notN (pv 3) pe_non (nomark _)) pss_never pss_nil)
      (pss_cons (ps_fld (pv 0) (pe_callB (cr_sortD (u := 2) hu4) (by rfl) ms boot_sorted (pa_cons (pv 1) pa_nil)) (by rfl))
      (pss_cons (ps_fld (pv 0) (pe_callB (cr_sortD (u := 2) hu4) (by rfl) ms boot_sorted (pa_cons (pv 2) pa_nil)) (by rfl))
      (pss_one (ps_fld (pv 0) (pe_make M GG r6 (by rfl) gG bG .nil pass0 (pa_cons (pe_fld (pv 0) (by rfl)) (pa_cons (pe_fld (pv 0) (by rfl)) pa_nil))) (by rfl)))))), ?_⟩
    have hfew := hso.few
    have hfl : fl ≠ a := fun z => by rw [z, ha] at hS; cases hS
    have hhl : hl ≠ a := fun z => by rw [z, ha] at hH; cases hH
    refine ⟨_, rfl, _, rfl, fl, hl, xs, fs, hard, rfl, hS, hp, hH, hz, hw, hnd, hso, fun H1 s1 => ?_⟩
    refine ⟨_, rfl, rfl, _, rfl, ?_⟩
    rw [decide_eq_true rfl]
    refine iteF ?_
    have a1 := s1 _ _ ha
    refine ⟨_, rfl, ?_⟩
    show tNil _ _ _
    unfold tNil
    refine sort_forms (SqL.of (s1 _ _ hS)) (prs_keep (fun h => h.r.keep (TupS.of s1)) hp) (by omega) fun l1 ys n1 hys => ?_
    have u1 := same_upd (o := .lst ys) n1
    refine ⟨_, rfl, a, D, dx, [], rfl, u1 _ _ a1, Z.c, Z.n1, by simp, ?_⟩
    have put1 : putF (Str.ofString "_forms") (V.ref l1) [] = [(Str.ofString "_forms", V.ref l1)] := rfl
    rw [put1]
    have l1a : l1 ≠ a := fun z => by rw [z, a1] at n1; cases n1
    obtain ⟨H2, eH2⟩ : ∃ H2, H2 = upd (upd H1 l1 (.lst ys)) a (.ins D dx [(Str.ofString "_forms", V.ref l1)]) := ⟨_, rfl⟩
    rw [← eH2]
    have k2 : Keep a H H2 := by rw [eH2]; exact keep_at ((Same.keep (s1.trans u1)))
    have a2 : H2 a = some (.ins D dx [(Str.ofString "_forms", V.ref l1)]) := by rw [eH2]; exact upd_same
    have f2 : H2 l1 = some (.lst ys) := by rw [eH2, upd_ne l1a]; exact upd_same
    have p2 : Paired (FormR H2) ys (srtF fs) := by rw [eH2]; exact prs_keep (fun h => h.keep (tupS_ins (u1 _ _ a1))) hys
    refine ⟨_, rfl, ?_⟩
    refine sort_words (SqL.of (k2 _ _ hhl hH)) (by omega) fun l2 n2 => ?_
    have u2 := same_upd (o := .lst ((srtS hard).map V.str)) n2
    refine ⟨_, rfl, a, D, dx, _, rfl, u2 _ _ a2, Z.c, Z.n2, by simp, ?_⟩
    have put2 : putF (Str.ofString "_hard") (V.ref l2) [(Str.ofString "_forms", V.ref l1)] = [(Str.ofString "_forms", V.ref l1), (Str.ofString "_hard", V.ref l2)] := rfl
    rw [put2]
    have l2a : l2 ≠ a := fun z => by rw [z, a2] at n2; cases n2
    obtain ⟨H3, eH3⟩ : ∃ H3, H3 = upd (upd H2 l2 (.lst ((srtS hard).map V.str))) a (.ins D dx [(Str.ofString "_forms", V.ref l1), (Str.ofString "_hard", V.ref l2)]) := ⟨_, rfl⟩
    rw [← eH3]
    have k23 : Keep a H2 H3 := by rw [eH3]; exact keep_at (Same.keep u2)
    have k3 := k2.trans k23
    have a3 : H3 a = some (.ins D dx [(Str.ofString "_forms", V.ref l1), (Str.ofString "_hard", V.ref l2)]) := by rw [eH3]; exact upd_same
    have f3 := k23 _ _ l1a f2
    have p3 : Paired (FormR H3) ys (srtF fs) := prs_keep (fun h => h.keep (tupS_keep a2 k23)) p2
    have g3 : H3 l2 = some (.lst ((srtS hard).map V.str)) := by rw [eH3, upd_ne l2a]; exact upd_same
    refine ⟨_, rfl, a, D, dx, _, _, rfl, a3, Z.c, Z.n1, rfl, _, rfl, a, D, dx, _, _, rfl, a3, Z.c, Z.n2, rfl, fun g dg ng ndg hne => ?_⟩
    have v1 := same_upd (o := .own g) ndg
    have ng2 : (upd H3 dg (.own g)) g = none := by rw [upd_ne hne.symm]; exact ng
    have v2 := same_upd (o := .ins G dg []) ng2
    have v12 := v1.trans v2
    have lenF : (srtF fs).length = fs.length := (srtF_perm fs).length_eq
    have lenS : (srtS hard).length = hard.length := (srtS_perm hard).length_eq
    refine ⟨g, dg, l1, l2, ys, srtF fs, srtS hard, rfl, upd_same, v12 _ _ f3, prs_keep (fun h => h.keep (TupS.of v12)) p3, v12 _ _ g3, by omega, by omega, fun f hf => hso.form f ((srtF_perm fs).mem_iff.mp hf), fun d1 d2 d3 d4 d5 d6 H' k e1 e2 e3 => ⟨rfl, ?_⟩⟩
    have s3 : Same H3 H' := fun b o hb => k b o (fun z => by rw [z, ng] at hb; cases hb) (v12 _ _ hb)
    have a4 := s3 _ _ a3
    refine ⟨_, rfl, a, D, dx, _, rfl, a4, Z.c, Z.n3, by simp, ?_⟩
    have put3 : putF (Str.ofString "grammar") (V.ref g) [(Str.ofString "_forms", V.ref l1), (Str.ofString "_hard", V.ref l2)] = [(Str.ofString "_forms", V.ref l1), (Str.ofString "_hard", V.ref l2), (Str.ofString "grammar", V.ref g)] := rfl
    rw [put3]
    have ga : g ≠ a := fun z => by rw [z, a3] at ng; cases ng
    have d3a : d3 ≠ a := fun z => by rw [z, a4] at e3; cases e3
    have d1a : d1 ≠ a := fun z => by obtain ⟨φ, e⟩ := DN.at_ext e2; rw [z, a4] at e; cases e
    refine q _ (keep_at (k3.trans (Same.keep s3))) ⟨dx, l1, l2, g, ys, none_back (Same.keep (a := a) s1) l1a n1, none_back k2 l2a n2, upd_same, ?_, prs_keep (fun h => h.keep (tupS_ins a4)) (prs_keep (fun h => h.keep (TupS.of s3)) p3), ?_, dg, d1, d2, d3, d4, d5, d6, ?_, ?_, ?_⟩
    · rw [upd_ne l1a]
      exact s3 _ _ f3
    · rw [upd_ne l2a]
      exact s3 _ _ g3
    · rw [upd_ne ga]
      exact e1
    · exact DN.keep (tupS_ins a4) (fun o e => by rw [upd_ne d1a]; exact e) e2
    · rw [upd_ne d3a]
      exact e3
end
end K2

set_option Elab.async false
set_option linter.all false
set_option maxRecDepth 100000
set_option maxHeartbeats 8000000
/-! k03: all fixed tokens of an edition -/
namespace K2
open PySem PySem.Spec PyProof.Rows L2 EL LW ND
open Ln (L isWord isSign isTok)
open PySem.EV (ErrC ErrI)
abbrev sFixed : Stmt := meth 51 8
theorem scFixed : FnScope ["self", "key"] ["self"] (defScope sFixed) := ⟨rfl, rfl, rfl, by decide +kernel, rfl, by decide +kernel, by decide +kernel⟩
theorem putI_mem {m : Lv} {k : NestedKey} {i : Int} : ∀ q ∈ putI m k i, q.1 = k ∨ ∃ j, (q.1, j) ∈ m := by
  intro q hq
  unfold putI at hq
  split at hq
  · obtain ⟨p, hp, rfl⟩ := List.mem_map.mp hq
    by_cases c : p.1 = k
    · rw [if_pos c]
      exact .inl c
    · rw [if_neg c]
      exact .inr ⟨p.2, hp⟩
  · rcases List.mem_append.mp hq with hq | hq
    · exact .inr ⟨q.2, hq⟩
    · rw [List.mem_singleton.mp hq]
      exact .inl rfl
theorem lvFold_mem : ∀ (l acc : Lv) (P : NestedKey → Prop), (∀ q ∈ acc, P q.1) → (∀ q ∈ l, P q.1) → ∀ q ∈ l.foldl (fun m q => putI m q.1 q.2) acc, P q.1
  | [], acc, P, h, _ => h
  | q0 :: l, acc, P, h, hl => by
    rw [List.foldl_cons]
    refine lvFold_mem l _ P (fun q hq => ?_) fun q hq => hl q (List.mem_cons_of_mem _ hq)
    rcases putI_mem q hq with e | ⟨j, hj⟩
    · rw [e]
      exact hl q0 List.mem_cons_self
    · exact h (q.1, j) hj
/-- the fixed token of an own key -/
def ownT : NestedKey → Option Str
  | .tup [.text s, .text t] => if s = tHead ∨ s = tTail then some t else none
  | _ => none
/-- how keys look: a word, then a text, or, behind other words than these two, anything -/
def KeyS (k : NestedKey) : Prop := ∃ s k2, k = .tup [.text s, k2] ∧ ((s = tHead ∨ s = tTail) → ∃ t, k2 = .text t)
theorem keyS_own (p : List Str) : KeyS (ownN p) := by
  unfold ownN
  split
  · exact ⟨_, _, rfl, fun _ => ⟨_, rfl⟩⟩
  · exact ⟨_, _, rfl, fun _ => ⟨_, rfl⟩⟩
theorem keyS_hole (p : List Str) (i : Nat) : KeyS (holeN p i) := by
  unfold holeN
  split
  · exact ⟨_, _, rfl, fun _ => ⟨_, rfl⟩⟩
  · exact ⟨_, _, rfl, fun h => absurd h (by decide +kernel)⟩
theorem keyS_all (fs : List Fm) : ∀ q ∈ lvFold (allLv fs), KeyS q.1 := by
  refine lvFold_mem _ [] KeyS (fun q hq => by cases hq) fun q hq => ?_
  obtain ⟨f, _, hq⟩ := List.mem_flatMap.mp hq
  have hk := (List.of_mem_zip (show (q.1, q.2) ∈ (keysN f.pat).zip (f.lev :: f.levs) from hq)).1
  unfold keysN at hk
  rcases List.mem_cons.mp hk with e | hk
  · rw [e]
    exact keyS_own _
  · obtain ⟨i, _, e⟩ := List.mem_map.mp hk
    rw [← e]
    exact keyS_hole _ _
theorem nk_pair {H : Hp} {a : Addr} {s : Str} {k2 : NestedKey} (h : Nk H (.ref a) (.tup [.text s, k2])) : ∃ v, Rd H a (.tup [.str s, v]) ∧ Nk H v k2 := by
  cases h with
  | tup h t =>
    cases t with
    | cons h1 t =>
      cases h1
      cases t with
      | cons h2 t =>
        cases t
        exact ⟨_, h, h2⟩
theorem nk_text {H : Hp} {v : V} {t : Str} (h : Nk H v (.text t)) : v = .str t := by
  cases h
  rfl
def ownsM (m : Lv) : List Str := m.filterMap fun q => ownT q.1
theorem owns_step {m : Lv} {i : Nat} {q : NestedKey × Int} (h : m[i]? = some q) : ownsM (m.take (i + 1)) = ownsM (m.take i) ++ (ownT q.1).toList := by
  obtain ⟨hi, e⟩ := List.getElem?_eq_some_iff.mp h
  unfold ownsM
  rw [List.take_succ_eq_append_getElem hi, List.filterMap_append, e]
  cases c : ownT q.1 with
  | none => simp [List.filterMap_cons, c]
  | some t => simp [List.filterMap_cons, c]
theorem owns_len (m : Lv) (i : Nat) : (ownsM (m.take i)).length ≤ m.length := Nat.le_trans (List.length_filterMap_le _ _) (List.length_take_le' _ _)
theorem foldS_mem {x : Str} : ∀ (l acc : List Str), x ∈ l.foldl TX.addS acc ↔ x ∈ l ∨ x ∈ acc
  | [], acc => by simp
  | y :: l, acc => by
    rw [List.foldl_cons, foldS_mem l]
    have : x ∈ TX.addS acc y ↔ x = y ∨ x ∈ acc := by
      unfold TX.addS
      split
      · rename_i c
        refine ⟨.inr, fun h => ?_⟩
        rcases h with rfl | h
        · exact c
        · exact h
      · rw [List.mem_cons]
    rw [this, List.mem_cons]
    refine ⟨fun h => ?_, fun h => ?_⟩
    · rcases h with h | h | h
      · exact .inl (.inr h)
      · exact .inl (.inl h)
      · exact .inr h
    · rcases h with (h | h) | h
      · exact .inr (.inl h)
      · exact .inl h
      · exact .inr (.inr h)
theorem trueK_keys : ∀ (ws : List Str) (acc : List (Key × V)) (l : List Str), (acc.map fun kv => kV kv.1) = l.map V.str → ∃ l' : List Str, ((ws.foldl (fun m x => putK m (.inr x) (.bl true)) acc).map fun kv => kV kv.1) = l'.map V.str ∧ (∀ x, x ∈ l' ↔ x ∈ l ∨ x ∈ ws) ∧ l'.length ≤ l.length + ws.length
  | [], acc, l, h => ⟨l, h, by simp, by simp⟩
  | y :: ws, acc, l, h => by
    rw [List.foldl_cons]
    have step : ∃ l1 : List Str, ((putK acc (.inr y) (.bl true)).map fun kv => kV kv.1) = l1.map V.str ∧ (∀ x, x ∈ l1 ↔ x ∈ l ∨ x = y) ∧ l1.length ≤ l.length + 1 := by
      unfold putK
      split
      · rename_i c
        obtain ⟨kv, hkv, e⟩ := List.any_eq_true.mp c
        have hy : y ∈ l := by
          have : kV kv.1 ∈ l.map V.str := h ▸ List.mem_map.mpr ⟨kv, hkv, rfl⟩
          rw [of_decide_eq_true e] at this
          obtain ⟨z, hz, ez⟩ := List.mem_map.mp this
          have : z = y := by injection ez
          exact this ▸ hz
        refine ⟨l, ?_, fun x => ⟨.inl, fun h => ?_⟩, Nat.le_succ _⟩
        · rw [← h, List.map_map]
          refine List.map_congr_left fun q _ => ?_
          show kV (if q.1 = _ then _ else q).1 = kV q.1
          split
          · rfl
          · rfl
        · rcases h with h | rfl
          · exact h
          · exact hy
      · refine ⟨l ++ [y], by rw [List.map_append, List.map_append, h]; rfl, fun x => by rw [List.mem_append, List.mem_singleton], by rw [List.length_append, List.length_singleton]; exact Nat.le_refl _⟩
    obtain ⟨l1, e1, m1, n1⟩ := step
    obtain ⟨l', e2, m2, n2⟩ := trueK_keys ws _ l1 e1
    refine ⟨l', e2, fun x => ?_, by rw [List.length_cons]; omega⟩
    rw [m2, m1, List.mem_cons]
    refine ⟨fun h => ?_, fun h => ?_⟩
    · rcases h with (h | h) | h
      · exact .inl h
      · exact .inr (.inl h)
      · exact .inr (.inr h)
    · rcases h with h | h | h
      · exact .inl (.inl h)
      · exact .inl (.inr h)
      · exact .inr h
section
variable {P : Program} {w : World} {K : PySem.W.Frag} {mg : Str → Option Value} {base : Heap} {C T I : Addr}
def spFixedM (P : Program) (w : World) (G : Addr) : Sp := fun vs H Q _ => ∃ (g : Addr) (fs : List Fm), vs = [.ref g] ∧ GramAt P w G H g fs ∧ fs.length ≤ 80 ∧ (∀ f ∈ fs, FmOk f) ∧ ∀ d (zs : List Str) H', Same H H' → H d = none → H' d = some (.lst (zs.map V.str)) → zs.length ≤ 1100 → (∀ x, x ∈ zs ↔ x ∈ ownsM (lvFold (allLv fs)) ∨ x ∈ midsM (patsOf fs)) → Q (.ref d) H'
theorem ok_fixedM {f G : Addr} {fd : FuncData} {k : Nat} (F : Fun K "fixed" "Grammar.fixed" sFixed f fd) (Z : GramC K G) (ms : mg "sorted" = none) (mse : mg "set" = none) (mli : mg "list" = none) :
    FnOk P w K mg base CX0 (k + 1) f fd ["self"] (spFixedM P w G) := by
  refine F.ok scFixed (fun vs H Q E h => ?_) (fun cdv A outer s H vs Q E hr h => ?_)
  · obtain ⟨g, fs, rfl, _⟩ := h
    rfl
  · obtain ⟨g, fs, rfl, hg, hz, hok, q⟩ := h
    have nd := scFixed.nd
    have hu3 : (A.deeper (envOfC "Grammar.fixed" (defScope sFixed) s.heap.objs.size f cdv)).units + 3 < cLine := by have := hr.un; omega
    refine ⟨_, pss_one (ps_ret (pe_callB (cr_sortX rfl hu3) (by rfl) ms boot_sorted (pa_cons (pe_callTy (cr_setX rfl) (by rfl) mse boot_set (pa_cons (pe_op op_cat
      (pe_lc (own := [("key", 1)]) (g := gName 1) rfl nd (pi_keysN (pe_fld (pv 0) (by rfl))) (blkOk_by (own := [("key", 1)]) (N := ["self", "key"]) (sc := defScope sFixed) (by decide +kernel)) (fun _ _ _ _ _ => pg_name (i := 1) nd rfl (Or.inl rfl))
        (fun _ _ _ _ _ => pts_one (pt_cmpR (r := rIn K false) op_in_seq (pe_ix (r := rIxT K) ix_tup (pv 1) pe_int (fun _ _ => rfl)) (pe_tup (pa_cons pe_str (pa_cons pe_str pa_nil))) (by rfl))) (fun _ _ _ _ _ => pe_ix (r := rIxT K) ix_tup (pv 1) pe_int (fun _ _ => rfl)))
      (pe_callTy (call_list_dK rfl) (by rfl) mli boot_list (pa_cons (pe_fld (pv 0) (by rfl)) pa_nil))) pa_nil)) pa_nil))), ?_⟩
    obtain ⟨dx, d1, d2, d3, d4, d5, d6, hgi, hD, h3⟩ := hg
    obtain ⟨m, hm⟩ : ∃ m, m = lvFold (allLv fs) := ⟨_, rfl⟩
    have hkey := keyS_all fs
    rw [← hm] at hD q hkey
    have hml : m.length ≤ 320 := by
      have h1 : (lvFold (allLv fs)).length ≤ (allLv fs).length + 0 := lvFold_len _ []
      have h2 := allLv_len hok fs.length
      rw [List.take_length] at h2
      rw [hm]
      omega
    have hkl : (kvI m).length = m.length := List.length_map ..
    have hpl : (patsOf fs).length = fs.length := List.length_map ..
    have hmi : (midsM (patsOf fs)).length ≤ 560 := by
      have h1 := mids_len (ps := patsOf fs) (fun p hp => by
        obtain ⟨f, hf, rfl⟩ := List.mem_map.mp hp
        exact (hok f hf).pat.len7) (patsOf fs).length
      rw [List.take_length] at h1
      omega
    refine ⟨_, rfl, g, G, dx, _, _, rfl, hgi, Z.c, Z.n1, rfl, d1, _, rfl, hD, fun xs ep e1 hp1 D nD => ?_⟩
    refine lc_it walkN (fun i H' => Same H H' ∧ H' D = some (.lst ((ownsM (m.take i)).map V.str))) ⟨same_upd nD, upd_same⟩ (fun i H' _ h => ⟨h.1 _ _ e1, ents_keep (TupS.of h.1) hp1⟩) ?_ ?_
    · rintro i x H2 H2' hi ⟨s2, eD⟩ ⟨rfl, k, v, a2, hk, rfl, hNk⟩
      have hk2 : ∃ lev, m[i]? = some (k, lev) := by
        unfold kvI at hk
        rw [List.getElem?_map] at hk
        obtain ⟨q0, hq0, e⟩ := Option.map_eq_some_iff.mp hk
        cases e
        exact ⟨_, hq0⟩
      obtain ⟨lev, hmi2⟩ := hk2
      obtain ⟨s0, k2, rfl, hks⟩ := hkey _ (List.mem_of_getElem? hmi2)
      obtain ⟨v2, hrd, hn2⟩ := nk_pair hNk
      refine ⟨rfl, _, rfl, a2, _, _, _, rfl, rfl, .inl hrd, atI_nat (j := 0) rfl, sz 2 (by decide), fun t nt => ?_⟩
      have st := same_upd (o := .tup [V.str tHead, V.str tTail]) nt
      refine ⟨t, [V.str tHead, V.str tTail], rfl, .inr (SqT.of upd_same), rfl, rfl, _, rfl, ?_⟩
      have hin : inV (.str s0) [V.str tHead, V.str tTail] = decide (s0 ∈ [tHead, tTail]) := inV_strs s0 [tHead, tTail]
      rw [if_neg (show ¬ (false = true) from Bool.false_ne_true), hin, owns_step hmi2]
      by_cases c : s0 = tHead ∨ s0 = tTail
      · obtain ⟨t0, rfl⟩ := hks c
        obtain rfl := nk_text hn2
        rw [decide_eq_true (by simpa using c)]
        have how : ownT (.tup [.text s0, .text t0]) = some t0 := if_pos c
        have hle := owns_len m i
        refine iteT ⟨_, rfl, a2, _, _, _, rfl, rfl, .inl (rd_same st hrd), atI_nat (j := 1) rfl, _, st _ _ eD, sz _ (by rw [List.length_map]; omega), same_over nD (s2.trans st), ?_⟩
        rw [upd_same, how, List.map_append]
        rfl
      · rw [decide_eq_false (by simpa using c)]
        have how : ownT (.tup [.text s0, k2]) = none := by
          unfold ownT
          split
          · rename_i a b e
            injection e with e
            injection e with e5 e6
            injection e5 with e5
            rw [if_neg (by rw [← e5]; exact c)]
          · rfl
        refine iteF ⟨s2.trans st, ?_⟩
        rw [how]
        simpa using st _ _ eD
    · rintro H1 ⟨s1, eD⟩
      rw [hkl, List.take_length] at eD
      have hle := owns_len m m.length
      rw [List.take_length] at hle
      obtain ⟨l, el, ml, nl⟩ := trueK_keys (midsM (patsOf fs)) [] [] rfl
      refine ⟨_, rfl, g, G, dx, _, _, rfl, s1 _ _ hgi, Z.c, Z.n3, rfl, d3, _, rfl, s1 _ _ h3, fun r nr => ?_⟩
      have er : ((trueK (midsM (patsOf fs))).map fun kv => kV kv.1) = l.map V.str := el
      rw [er]
      have sr := same_upd (o := .lst (l.map V.str)) nr
      simp only [List.length_nil, Nat.zero_add] at nl
      refine ⟨D, r, _, _, rfl, rfl, sr _ _ eD, upd_same, sz _ (by rw [List.length_map, List.length_map]; omega), fun u nu => ?_⟩
      have hcat : (ownsM m).map V.str ++ l.map V.str = (ownsM m ++ l).map V.str := by rw [List.map_append]
      rw [hcat]
      have su := same_upd (o := .lst ((ownsM m ++ l).map V.str)) nu
      refine ⟨u, ownsM m ++ l, rfl, SqL.of upd_same, by rw [List.length_append]; omega, fun S nS => ?_⟩
      have hfl := foldS_len (ownsM m ++ l) []
      rw [List.length_append, List.length_nil] at hfl
      have sS := same_upd (o := SetX P w S ((ownsM m ++ l).foldl TX.addS [])) nS
      refine ⟨S, _, rfl, upd_same, by omega, fun d zs nd2 pm => ?_⟩
      have pm2 := (List.mergeSort_perm zs (PySem.W.dataLe false PyData.str)).trans pm
      have sAll := (s1.trans sr).trans (su.trans sS)
      have dn : H d = none := by
        cases z : H d with
        | none => rfl
        | some o =>
          exact nomatch (sAll _ _ z).symm.trans nd2
      refine q d _ _ (sAll.trans (same_upd nd2)) dn upd_same (by rw [pm2.length_eq]; omega) fun x => ?_
      rw [pm2.mem_iff, foldS_mem, List.mem_append, ml]
      simp
end
end K2

set_option Elab.async false
set_option linter.all false
set_option maxRecDepth 100000
set_option maxHeartbeats 8000000
/-! k03: lists of editions -/
namespace K2
open PySem PySem.Spec PyProof.Rows L2 EL LW ND
open Ln (L isWord isSign isTok)
open PySem.EV (ErrC ErrI)
abbrev sReqEd : Stmt := topS 58
theorem scReqEd : FnScope ["editions", "edition"] ["editions"] (defScope sReqEd) := ⟨rfl, rfl, rfl, by decide +kernel, rfl, by decide +kernel, by decide +kernel⟩
/-- is it an instance of this class -/
def IsE (K : PySem.W.Frag) (D : Addr) (H : Hp) (v : V) (b : Bool) : Prop := ∃ t, PySem.W.kitOne K t (.ref D) = some b ∧ ∀ H', Same H H' → TyX K H' v t
theorem IsE.same {K : PySem.W.Frag} {D : Addr} {H H' : Hp} {v : V} {b : Bool} (h : IsE K D H v b) (s : Same H H') : IsE K D H' v b := by
  obtain ⟨t, a, c⟩ := h
  exact ⟨t, a, fun H2 s2 => c H2 (s.trans s2)⟩
def EdV (K : PySem.W.Frag) (D : Addr) (H : Hp) (v : V) (b : Bool) : Prop := (∃ (a : Addr) (xs : List V) (bs : List Bool), v = .ref a ∧ H a = some (.lst xs) ∧ xs.length ≤ 1000 ∧ Paired (IsE K D H) xs bs ∧ b = bs.all id) ∨ (NoL K H v ∧ b = false)
section
variable {P : Program} {w : World} {K : PySem.W.Frag} {mg : Str → Option Value} {base : Heap} {C T I : Addr}
def spReqEd (K : PySem.W.Frag) (D C : Addr) : Sp := fun vs H Q E => ∃ (v : V) (b : Bool), vs = [v] ∧ EdV K D H v b ∧ (b = true → ∀ H', Same H H' → Q .non H') ∧ (b = false → Refuses C H v E)
theorem ok_reqed {f D : Addr} {fd : FuncData} {k : Nat} (F : Fun K "require_editions" "require_editions" sReqEd f fd) (Z : ErrC K C T) (J : ErrI K C I) (mC : mg "InvalidEditions" = some (.ref C)) (mD : mg "Edition" = some (.ref D)) 
    (mis : mg "isinstance" = none) (mli : mg "list" = none) (mal : mg "all" = none) : FnOk P w K mg base (L2.CX P w) (k + 2) f fd ["editions"] (spReqEd K D C) := by
  refine F.okX scReqEd (fun vs H Q E h => ?_) (fun cdv A outer s H vs Q E hr h => ?_)
  · obtain ⟨v, b, rfl, _⟩ := h
    rfl
  · obtain ⟨v, b, rfl, hv, q1, q2⟩ := h
    have nd := scReqEd.nd
    refine ⟨_, pss_one (ps_if (PW.pt (pw_or (pt_not (pt_val (pe_callB call_isi (by rfl) mis boot_isi (pa_cons (pv 0) (pa_cons (pe_bltn (v := .ty "list") (by rfl) mli boot_list rfl) pa_nil)))))
        (pw_or1 (pt_not (pt_val (pe_callB (cr_all rfl) (by rfl) mal boot_all (pa_cons (pe_lc (own := [("edition", 1)]) (g := gName 1) (tt := tYes) rfl nd (pi_list (pv 0)) (blkOk_by (own := [("edition", 1)]) (N := ["editions", "edition"]) (sc := defScope sReqEd) (by decide +kernel)) (fun _ _ _ _ _ => pg_name (i := 1) nd rfl (Or.inl rfl)) (fun _ _ _ _ _ => pts_nil)
          (fun _ _ _ _ _ => pe_callB (r := rIsi K) call_isi (by rfl) mis boot_isi (pa_cons (pv 1) (pa_cons (pe_glob (v := .ref D) (by rfl) mD rfl) pa_nil)))) pa_nil)))))))
        (pss_one (ps_raiseErr rfl Z J hr (takes_of rfl rfl rfl rfl) mC (pv 0))) pss_nil), ?_⟩
    rcases hv with ⟨a, xs, bs, rfl, ha, hz, hp, rfl⟩ | ⟨⟨t0, k0, ty0⟩, rfl⟩
    · refine ⟨.ref a, rfl, _, _, _, _, true, rfl, ClsV.ty _, .base (.lst ha), kit_ty (by decide +kernel), true, rfl, iteF ?_⟩
      have hx := pairs_len hp
      refine ⟨.ref a, rfl, a, rfl, ⟨_, SqL.of ha⟩, fun D' nD => lc_same (walk_list (xs := xs)) nD (bs.map V.bl) (by rw [List.length_map, hx]) (sz _ (by omega)) (fun H1 s1 => SqL.of (s1 _ _ ha)) ?_ fun H1 s1 eD => ?_⟩
      · rintro i y H1 H1' hi s1 ⟨rfl, hy⟩
        refine ⟨Same.refl _, rfl, fun Q' q' => ?_⟩
        obtain ⟨b, hb, t, k, ty⟩ := prs_get hp hy
        exact ⟨y, rfl, _, _, t, _, b, rfl, ClsV.own D, ty _ s1, k, q' _ _ (Same.refl _) (by rw [List.getElem?_map, hb]; rfl)⟩
      · refine ⟨D', bs, rfl, SqL.of eD, ?_⟩
        refine ⟨_, rfl, ?_⟩
        cases e : bs.all id with
        | true => exact iteF (q1 e H1 s1)
        | false => exact iteT ⟨_, rfl, fun d hd => q2 e d _ (s1.trans (same_upd hd)) upd_same⟩
    · refine ⟨v, rfl, _, _, t0, _, false, rfl, ClsV.ty _, ty0 _ (Same.refl _), k0, false, rfl, iteT ?_⟩
      exact ⟨_, rfl, fun d hd => q2 rfl d _ (same_upd hd) upd_same⟩
end
end K2

set_option Elab.async false
set_option linter.all false
set_option maxRecDepth 100000
set_option maxHeartbeats 8000000
/-! k03: the words in order are all unlike -/
namespace K2
open PySem PySem.Spec PyProof.Rows L2 EL LW ND
open Ln (L isLet isWord isSign isTok)
theorem wAt_inj : ∀ (k n m : Nat), n ≤ k → wAt n = wAt m → n = m
  | 0, n, m, h, e => by
    obtain rfl : n = 0 := by omega
    rcases Nat.eq_zero_or_pos m with rfl | c
    · rfl
    · rw [wAt_zero, wAt_pos c] at e
      exact absurd e.symm (by simp)
  | k + 1, n, m, h, e => by
    rcases Nat.eq_zero_or_pos n with rfl | cn
    · exact wAt_inj k 0 m (Nat.zero_le _) e
    · rcases Nat.eq_zero_or_pos m with rfl | cm
      · rw [wAt_zero, wAt_pos cn] at e
        exact absurd e (by simp)
      · rw [wAt_pos cn, wAt_pos cm] at e
        obtain ⟨e1, e2⟩ := List.append_inj' e rfl
        have h1 := wAt_inj k _ _ (by omega) e1
        have h2 : 97 + (n - 1) % 26 = 97 + (m - 1) % 26 := by simpa using e2
        omega
theorem wAt_let : ∀ (k n : Nat), n ≤ k → ∀ c ∈ wAt n, isLet c = true
  | 0, n, h, c, hc => by
    obtain rfl : n = 0 := by omega
    rw [wAt_zero] at hc
    cases hc
  | k + 1, n, h, c, hc => by
    rcases Nat.eq_zero_or_pos n with rfl | cn
    · rw [wAt_zero] at hc
      cases hc
    · rw [wAt_pos cn] at hc
      rcases List.mem_append.mp hc with hc | hc
      · exact wAt_let k _ (by omega) c hc
      · rw [List.mem_singleton.mp hc]
        unfold isLet
        simp
        omega
theorem nodup_map {α β : Type} {f : α → β} (inj : ∀ i j, f i = f j → i = j) : ∀ {l : List α}, l.Nodup → (l.map f).Nodup
  | [], _ => List.nodup_nil
  | x :: l, h => by
    have h2 := List.nodup_cons.mp h
    rw [List.map_cons]
    refine List.nodup_cons.mpr ⟨fun z => ?_, nodup_map inj h2.2⟩
    obtain ⟨y, hy, e⟩ := List.mem_map.mp z
    exact h2.1 (inj _ _ e ▸ hy)
theorem nodup_le {α : Type} [DecidableEq α] : ∀ {xs ys : List α}, xs.Nodup → (∀ x ∈ xs, x ∈ ys) → xs.length ≤ ys.length
  | [], _, _, _ => Nat.zero_le _
  | x :: xs, ys, h, hs => by
    have h2 := List.nodup_cons.mp h
    have hx := hs x List.mem_cons_self
    have ih := nodup_le (ys := ys.erase x) h2.2 fun y hy => (List.mem_erase_of_ne (fun z : y = x => h2.1 (z ▸ hy))).mpr (hs y (List.mem_cons_of_mem _ hy))
    rw [List.length_erase_of_mem hx] at ih
    have := List.length_pos_of_mem hx
    rw [List.length_cons]
    omega
/-- of so many words in order no more stand in a list than it has -/
theorem words_in (fixed : List L) : ∀ n, ((List.range n).filter fun i => decide (wAt (i + 1) ∈ fixed)).length ≤ fixed.length := by
  intro n
  have nd : (((List.range n).filter fun i => decide (wAt (i + 1) ∈ fixed)).map fun i => wAt (i + 1)).Nodup :=
    nodup_map (fun i j e => by have := wAt_inj _ _ _ (Nat.le_refl _) e; omega) ((List.filter_sublist).nodup List.nodup_range)
  have sub : ∀ x ∈ ((List.range n).filter fun i => decide (wAt (i + 1) ∈ fixed)).map fun i => wAt (i + 1), x ∈ fixed := by
    intro x hx
    obtain ⟨i, hi, rfl⟩ := List.mem_map.mp hx
    exact of_decide_eq_true (List.mem_filter.mp hi).2
  have := nodup_le nd sub
  rwa [List.length_map] at this
end K2

set_option Elab.async false
set_option linter.all false
set_option maxRecDepth 100000
set_option maxHeartbeats 8000000
/-! k03: free words -/
namespace K2
open PySem PySem.Spec PyProof.Rows L2 EL LW ND
open Ln (L isLet isWord isSign isTok)
open PySem.EV (ErrC ErrI)
abbrev sFree : Stmt := topS 75
abbrev nFree : List Str := ["editions", "many", "fixed", "words", "at", "token", "edition"]
theorem scFree : FnScope nFree ["editions", "many"] (defScope sFree) := ⟨rfl, rfl, rfl, by decide +kernel, rfl, by decide +kernel, by decide +kernel⟩
/-- of so many words in order those that are free -/
def freeTo (p : L → Bool) (n : Nat) : List L := ((List.range n).map fun i => wAt (i + 1)).filter fun t => !p t
theorem freeTo_step (p : L → Bool) (n : Nat) : freeTo p (n + 1) = freeTo p n ++ (if p (wAt (n + 1)) then [] else [wAt (n + 1)]) := by
  unfold freeTo
  rw [List.range_succ, List.map_append, List.filter_append]
  congr 1
  cases c : p (wAt (n + 1)) with
  | true => simp [c]
  | false => simp [c]
/-- the fixed tokens that these editions tell -/
def fixedIn (q : List Fm × List Str) (x : Str) : Prop := x ∈ ownsM (lvFold (allLv (srtF q.1))) ∨ x ∈ midsM (patsOf (srtF q.1))
theorem freeTo_len (fx : List Str) (n : Nat) : n ≤ (freeTo (fun t => decide (S t ∈ fx)) n).length + fx.length := by
  have h1 := words_in (fx.map cp) n
  have h2 : (freeTo (fun t => decide (S t ∈ fx)) n).length + ((List.range n).filter fun i => decide (wAt (i + 1) ∈ fx.map cp)).length = n := by
    induction n with
    | zero => rfl
    | succ n ih =>
      have ih := ih (words_in (fx.map cp) n)
      rw [freeTo_step, List.range_succ, List.filter_append, List.length_append, List.length_append]
      have e : decide (wAt (n + 1) ∈ fx.map cp) = decide (S (wAt (n + 1)) ∈ fx) := by
        rw [Bool.eq_iff_iff, decide_eq_true_iff, decide_eq_true_iff, List.mem_map]
        refine ⟨fun ⟨y, hy, e⟩ => ?_, fun h => ⟨_, h, cp_S _⟩⟩
        rw [← e, S_cp]
        exact hy
      have e2 : ([n].filter fun i => decide (wAt (i + 1) ∈ fx.map cp)).length = if S (wAt (n + 1)) ∈ fx then 1 else 0 := by
        rw [List.filter_cons, e]
        by_cases c : S (wAt (n + 1)) ∈ fx
        · rw [if_pos (decide_eq_true c), if_pos c]
          rfl
        · rw [if_neg (by simpa using c), if_neg c]
          rfl
      rw [e2]
      by_cases c : S (wAt (n + 1)) ∈ fx
      · rw [if_pos c, if_pos (decide_eq_true c)]
        simp only [List.length_nil]
        omega
      · rw [if_neg c, if_neg (by simpa using c)]
        simp only [List.length_singleton]
        omega
  rw [List.length_map] at h1
  omega
/-- an edition of these forms, not too many -/
def EdAt (P : Program) (w : World) (D G : Addr) (H : Hp) (v : V) (q : List Fm × List Str) : Prop := ∃ e, v = .ref e ∧ EditAt P w D G H e q.1 q.2 ∧ q.1.length ≤ 80 ∧ ∀ f ∈ q.1, FmOk f
section
variable {P : Program} {w : World} {K : PySem.W.Frag} {mg : Str → Option Value} {base : Heap} {C T I : Addr}
theorem CntV.same {H H' : Hp} {v : V} {b : Bool} (s : Same H H') : CntV K H v b → CntV K H' v b := fun h => by
  rcases h with h | h | ⟨⟨t, k, ty⟩, e⟩
  · exact .inl h
  · exact .inr (.inl h)
  · exact .inr (.inr ⟨⟨t, k, fun H2 s2 => ty H2 (s.trans s2)⟩, e⟩)
def spFree (P : Program) (w : World) (K : PySem.W.Frag) (D G C C2 : Addr) : Sp := fun vs H Q E => ∃ (v m : V), vs = [v, m] ∧ ((EdV K D H v false ∧ Refuses C H v E) ∨
  ∃ (a : Addr) (xs : List V) (qs : List (List Fm × List Str)), v = .ref a ∧ H a = some (.lst xs) ∧ Paired (EdAt P w D G H) xs qs ∧ qs.length ≤ 10 ∧ EdV K D H v true ∧
    ((∃ n : Nat, m = .int n ∧ n ≤ 1000 ∧ ∀ (d : Addr) (H' : Hp) (fx : List Str) (at_ : Nat), Same H H' → H d = none → H' d = some (.lst (vl (freeTo (fun t => decide (S t ∈ fx)) at_))) → (∀ x, x ∈ fx ↔ ∃ q ∈ qs, fixedIn q x) → (freeTo (fun t => decide (S t ∈ fx)) at_).length = n → Q (.ref d) H') ∨
     (((∃ i : Int, m = .int i ∧ 1000 < i) ∨ CntV K H m false) ∧ Refuses C2 H m E)))
theorem ok_free {f fR fC fW fX C2 T2 I2 D G : Addr} {fd dR dC dW dX : FuncData} {k : Nat} {t1 : Tok} (F : Fun K "free_words" "free_words" sFree f fd) (Z : EditC K D) (ZG : GramC K G)
    (kR : PySem.W.keepIn K (.ref fR) = true) (GR : FnOk P w K mg base (L2.CX P w) 2 fR dR ["editions"] (spReqEd K D C)) (bR : Binds K dR ["editions"] []) (gR : mg "require_editions" = some (.ref fR))
    (kC : PySem.W.keepIn K (.ref fC) = true) (GC : FnOk P w K mg base CX0 1 fC dC ["value"] (spCount K)) (bC : Binds K dC ["value"] []) (gC : mg "is_count" = some (.ref fC))
    (kW : PySem.W.keepIn K (.ref fW) = true) (GW : FnOk P w K mg base CX0 1 fW dW ["at"] spWordAt) (bW : Binds K dW ["at"] []) (gW : mg "word_at" = some (.ref fW))
    (hm : Meth K G "fixed" fX) (GX : FnOk P w K mg base CX0 1 fX dX ["self"] (spFixedM P w G)) (bX : Binds K dX ["self"] [])
    (Z2 : ErrC K C2 T2) (J2 : ErrI K C2 I2) (mC2 : mg "InvalidCount" = some (.ref C2)) (mM : mg "MOST_WORDS" = some (.int 1000 t1)) (ml : mg "len" = none) :
    FnOk P w K mg base (L2.CX P w) 3 f fd ["editions", "many"] (spFree P w K D G C C2) := by
  refine F.okX scFree (fun vs H Q E h => ?_) (fun cdv A outer s H vs Q E hr h => ?_)
  · obtain ⟨v, m, rfl, _⟩ := h
    rfl
  · obtain ⟨v, m, rfl, hall⟩ := h
    have nd := scFree.nd
    have r1 := hr.mono (by decide : 1 ≤ 2)
    refine ⟨_, pss_cons (ps_expr (pe_callS GR hr (by rfl) gR kR bR (fun σ => passAt (takes_of rfl rfl rfl rfl) σ) (pa_cons (pv 0) pa_nil)))
      (pss_cons (ps_if (PW.pt (pw_or (pt_not (pt_val (pe_call GC r1 (by rfl) gC kC bC .nil pass0 (pa_cons (pv 1) pa_nil)))) (pw_or1 (pt_cmpR op_gt (pv 1) (pe_glob (v := .int 1000) (by rfl) mM ⟨_, rfl⟩) (nomark _)))))
        (pss_one (ps_raiseErr rfl Z2 J2 hr (takes_of rfl rfl rfl rfl) mC2 (pv 1))) pss_nil)
      (PSs.nox (pss_cons (ps_setLc2 (i := 2) (own := [("token", 5), ("edition", 6)]) (vs1 := [5]) (g := gName 6) (tt := tYes) (g1 := gName 5) (tt1 := tYes) (wi1 := iList K (tMeth G "fixed" (spFixedM P w G) [] E0 (tFld K (tVar 6) "grammar") tNil)) rfl nd rfl rfl (sw_true rfl rfl rfl (by decide +kernel)) (pi_list (pv 0)) (blkOk_by (own := [("token", 5), ("edition", 6)]) (N := nFree) (sc := defScope sFree) (by decide +kernel)) (by decide) (fun _ _ _ _ _ => pg_name (i := 6) nd rfl (Or.inl rfl)) (fun _ _ _ _ _ => pts_nil)
          (fun _ _ _ _ _ => pi_list (pe_meth0 (pe_fldK (K := K) rfl (pv 6) (by rfl)) ZG.c hm GX r1 bX .nil pass0)) (fun _ _ _ _ _ => pg_name (i := 5) nd rfl (Or.inl rfl)) (fun _ _ _ _ _ => pts_nil) (fun _ _ _ _ _ => pv 5))
      (pss_cons (ps_set (i := 3) nd rfl (.inl rfl) (pe_lst pa_nil))
      (pss_cons (ps_set (i := 4) nd rfl (.inl rfl) pe_int)
      (pss_cons (ps_while PassesOwn.never (pt_cmpR op_lt (pe_callB call_len_seq (by rfl) ml PySem.boot_len (pa_cons (pv 3) pa_nil)) (pv 1) (nomark _))
          (pss_cons (ps_if (pt_cmpR op_notIn_seq (pe_call GW r1 (by rfl) gW kW bW .nil pass0 (pa_cons (pv 4) pa_nil)) (pv 2) (by rfl)) (pss_one (ps_expr (pe_bm PySem.F.plainAttrs_list PySem.F.slot_list_append PySem.F.type_list_append mt_append (pv 3) (pa_cons (pe_call GW r1 (by rfl) gW kW bW .nil pass0 (pa_cons (pv 4) pa_nil)) pa_nil)))) pss_nil)
          (pss_one (ps_aug (i := 4) nd rfl (.inl rfl) pe_int ip_add))))
      (pss_one (ps_ret (pv 3))))))))), ?_⟩
    rcases hall with ⟨hv, q2⟩ | ⟨a, xs, qs, rfl, ha, hp, hq10, hv, hm2⟩
    · exact ⟨_, rfl, v, false, rfl, hv, fun hb => (nomatch hb), fun _ => q2⟩
    refine ⟨_, rfl, _, true, rfl, hv, fun _ H1 s1 => ?_, fun hb => (nomatch hb)⟩
    rcases hm2 with ⟨n, rfl, hn, q⟩ | ⟨hbad, q2⟩
    · refine ⟨_, rfl, .int n, true, rfl, .inl ⟨n, rfl, (decide_eq_true (by omega)).symm⟩, fun H2 s2 => ⟨_, rfl, ?_⟩⟩
      refine iteF ⟨_, rfl, _, _, rfl, rfl, _, rfl, ?_⟩
      rw [decide_eq_false (by omega)]
      refine iteF ?_
      have s12 := s1.trans s2
      have hx := pairs_len hp
      refine ⟨_, rfl, a, rfl, ⟨_, SqL.of (s12 _ _ ha)⟩, fun D1 nD => ?_⟩
      refine ⟨fun i k H' => k = xs.length - i ∧ i ≤ xs.length ∧ Same H2 H' ∧ ∃ fx : List Str, H' D1 = some (.lst (fx.map V.str)) ∧ fx.length ≤ 1100 * i ∧ ∀ x, x ∈ fx ↔ ∃ q ∈ qs.take i, fixedIn q x, ⟨_, rfl, Nat.zero_le _, same_upd nD, [], upd_same, Nat.zero_le _, by simp⟩, ?_⟩
      rintro i k H3 ⟨rfl, hi, s3, fx, eD, hfx, hmem⟩
      have ea := s3 _ _ (s12 _ _ ha)
      rcases Nat.lt_or_ge i xs.length with lt | ge
      · refine .inr ⟨⟨_, xs[i]'lt, SqL.of ea, List.getElem?_eq_getElem lt⟩, fun H' => Same H2 H' ∧ ∃ fx : List Str, H' D1 = some (.lst (fx.map V.str)) ∧ fx.length ≤ 1100 * (i + 1) ∧ ∀ x, x ∈ fx ↔ ∃ q ∈ qs.take (i + 1), fixedIn q x, fun H' h => ⟨_, by omega, rfl, lt, h⟩, ?_⟩
        rintro x H3' ⟨rfl, y⟩
        have hxi := y _ (SqL.of ea)
        obtain ⟨qd, hqi, e, rfl, hed, h80, hfo⟩ := prs_get hp hxi
        obtain ⟨dx, l1, l2, g, ys, he, _, _, _, hg⟩ := hed
        have hg3 := GramAt.same (s12.trans s3) hg
        have hg4 := hg3
        obtain ⟨dg, d1, d2, d3, d4, d5, d6, hgi, _⟩ := hg4
        have lenF : (srtF qd.1).length = qd.1.length := (srtF_perm qd.1).length_eq
        refine ⟨rfl, _, rfl, e, D, dx, _, _, rfl, s3 _ _ (s12 _ _ he), Z.c, Z.n3, rfl, g, dg, _, rfl, hgi, rfl, ?_⟩
        refine ⟨g, srtF qd.1, rfl, hg3, by omega, fun f hf => hfo f ((srtF_perm qd.1).mem_iff.mp hf), fun d zs H4 s4 dn ed hz hzm => ?_⟩
        have hdD : d ≠ D1 := fun z => by rw [z, eD] at dn; cases dn
        have hzl : (zs.map V.str).length = zs.length := List.length_map ..
        have hfl : fx.length ≤ 11000 := by omega
        refine ⟨d, rfl, ⟨_, SqL.of ed⟩, fun j k H' => k = zs.length - j ∧ j ≤ zs.length ∧ Same H2 H' ∧ H' d = some (.lst (zs.map V.str)) ∧ H' D1 = some (.lst ((fx ++ zs.take j).map V.str)), ⟨_, rfl, Nat.zero_le _, s3.trans s4, ed, by rw [List.take_zero, List.append_nil]; exact s4 _ _ eD⟩, ?_⟩
        rintro j k H5 ⟨rfl, hj, s5, ed5, eD5⟩
        rcases Nat.lt_or_ge j zs.length with lt2 | ge2
        · refine .inr ⟨⟨_, (zs.map V.str)[j]'(by omega), SqL.of ed5, List.getElem?_eq_getElem (by omega)⟩, fun H' => Same H2 H' ∧ H' d = some (.lst (zs.map V.str)) ∧ H' D1 = some (.lst ((fx ++ zs.take (j + 1)).map V.str)), fun H' h => ⟨_, by omega, rfl, lt2, h⟩, ?_⟩
          rintro x H5' ⟨rfl, y2⟩
          obtain ⟨z, hz2, rfl⟩ := get_strs (y2 _ (SqL.of ed5))
          obtain ⟨h1, h2⟩ := List.getElem?_eq_some_iff.mp hz2
          refine ⟨rfl, _, rfl, _, eD5, ?_, same_over nD s5, ?_, ?_⟩
          · have := sz 20000 (by decide)
            rw [List.length_map, List.length_append, List.length_take]
            omega
          · rw [upd_ne hdD]
            exact ed5
          · rw [upd_same, List.take_succ_eq_append_getElem h1, h2, ← List.append_assoc, List.map_append (l₁ := fx ++ zs.take j)]
            rfl
        · have : j = zs.length := by omega
          subst this
          rw [List.take_length] at eD5
          refine .inl ⟨⟨_, SqL.of ed5, by rw [hzl]; exact Nat.le_refl _⟩, s5, fx ++ zs, eD5, by rw [List.length_append]; omega, fun x => ?_⟩
          obtain ⟨hi2, e2⟩ := List.getElem?_eq_some_iff.mp hqi
          rw [List.mem_append, hmem, List.take_succ_eq_append_getElem hi2, e2, hzm]
          refine ⟨fun h => ?_, fun ⟨q', hq', hf⟩ => ?_⟩
          · rcases h with ⟨q', hq', hf⟩ | h
            · exact ⟨q', List.mem_append_left _ hq', hf⟩
            · exact ⟨qd, List.mem_append_right _ (List.mem_singleton.mpr rfl), h⟩
          · rcases List.mem_append.mp hq' with hq' | hq'
            · exact .inl ⟨q', hq', hf⟩
            · rw [List.mem_singleton.mp hq'] at hf
              exact .inr hf
      · have : i = xs.length := by omega
        subst this
        refine .inl ⟨⟨_, SqL.of ea, Nat.le_refl _⟩, ?_⟩
        rw [hx, List.take_length] at hmem
        have hfl : fx.length ≤ 11000 := by omega
        have hB := freeTo_len fx
        refine ⟨Nat.zero_le _, fun Wd nW => ?_⟩
        have uW := same_upd (o := .lst []) nW
        have nWH : H Wd = none := by
          cases z : H Wd with
          | none => rfl
          | some o => exact nomatch ((s12.trans s3) _ _ z).symm.trans nW
        have hDW : D1 ≠ Wd := fun z => by rw [← z, eD] at nW; cases nW
        have vlen : ∀ l : List L, (vl l).length = l.length := fun l => by unfold vl; rw [List.length_map]
        refine ⟨fun mm σ H' => ∃ at_ : Nat, mm = n + fx.length + 1 - at_ ∧ at_ ≤ n + fx.length ∧ (freeTo (fun t => decide (S t ∈ fx)) at_).length ≤ n ∧ Same H3 H' ∧ H' Wd = some (.lst (vl (freeTo (fun t => decide (S t ∈ fx)) at_))) ∧ σ = [some (.ref a), some (.int n), some (.ref D1), some (.ref Wd), some (.int (at_ : Nat)), none, none], ⟨_, 0, rfl, Nat.zero_le _, Nat.zero_le _, uW, upd_same, rfl⟩, ?_⟩
        rintro mm σ H4 ⟨at_, rfl, hat, hlen, s4, eW, rfl⟩
        refine ⟨_, rfl, Wd, _, rfl, .inl (SqL.of eW), _, rfl, _, _, rfl, rfl, _, rfl, ?_⟩
        rw [vlen]
        rcases Nat.lt_or_ge (freeTo (fun t => decide (S t ∈ fx)) at_).length n with lt3 | ge3
        · have hat2 : at_ < n + fx.length := by have := hB at_; omega
          rw [decide_eq_true (by omega)]
          have wpos : (wAt (at_ + 1)).length ≤ at_ + 1 := wAt_len _ _ (Nat.le_refl _)
          refine iteT ⟨fun σ' H' => (freeTo (fun t => decide (S t ∈ fx)) (at_ + 1)).length ≤ n ∧ Same H3 H' ∧ H' Wd = some (.lst (vl (freeTo (fun t => decide (S t ∈ fx)) (at_ + 1)))) ∧ σ' = [some (.ref a), some (.int n), some (.ref D1), some (.ref Wd), some (.int ((at_ + 1 : Nat) : Int)), none, none], fun σ' H' ⟨g1, g2, g3, g4⟩ => ⟨n + fx.length + 1 - (at_ + 1), by omega, at_ + 1, rfl, by omega, g1, g2, g3, g4⟩, ?_⟩
          refine ⟨_, rfl, at_, rfl, by omega, _, rfl, D1, _, rfl, .inl (SqL.of (s4 _ _ eD)), rfl, flat_strs _, _, rfl, ?_⟩
          rw [if_pos rfl, inV_strs, freeTo_step]
          by_cases c : S (wAt (at_ + 1)) ∈ fx
          · rw [decide_eq_true c]
            refine iteF ⟨_, rfl, _, _, rfl, rfl, ?_⟩
            rw [if_pos rfl, List.append_nil]
            exact ⟨hlen, s4, eW, rfl⟩
          · rw [decide_eq_false c]
            refine iteT ⟨_, rfl, .inl ⟨rfl, _, SqL.of eW⟩, _, rfl, at_, rfl, by omega, Wd, _, _, rfl, rfl, eW, ?_, _, rfl, _, _, rfl, rfl, ?_⟩
            · have := sz 2000 (by decide)
              rw [vlen]
              omega
            · rw [if_neg Bool.false_ne_true]
              refine ⟨by rw [List.length_append, List.length_singleton]; omega, same_over nW s4, ?_, rfl⟩
              rw [upd_same]
              unfold vl
              rw [List.map_append]
              rfl
        · rw [decide_eq_false (by omega)]
          refine iteF ⟨_, rfl, ?_⟩
          exact q Wd H4 fx at_ ((s12.trans s3).trans s4) nWH eW hmem (by omega)
    · have bad : ∀ H2, Same H H2 → ∀ d : Addr, H2 d = none → E (.ref C2) (some d) (upd H2 d (.xd [("value", m)])) := fun H2 s2 d hd => q2 d _ (s2.trans (same_upd hd)) upd_same
      rcases hbad with ⟨i, rfl, hi⟩ | hcn
      · refine ⟨_, rfl, .int i, true, rfl, .inl ⟨i, rfl, (decide_eq_true (by omega)).symm⟩, fun H2 s2 => ⟨_, rfl, ?_⟩⟩
        refine iteF ⟨_, rfl, _, _, rfl, rfl, _, rfl, ?_⟩
        rw [decide_eq_true hi]
        exact iteT ⟨_, rfl, fun d hd => bad H2 (s1.trans s2) d hd⟩
      · refine ⟨_, rfl, m, false, rfl, hcn.same s1, fun H2 s2 => ⟨_, rfl, ?_⟩⟩
        exact iteT (iteT ⟨_, rfl, fun d hd => bad H2 (s1.trans s2) d hd⟩)
end
end K2

set_option Elab.async false
set_option linter.all false
set_option maxRecDepth 100000
set_option maxHeartbeats 8000000
/-! k03: what the law shuffles -/
namespace K2
open PySem PySem.Spec PyProof.Rows L2 EL LW ND
abbrev sShuf : Stmt := topS 82
theorem scShuf : FnScope ["_law_purse_here", "_law_some", "_law_found", "_law_item"] ["_law_purse_here", "_law_some"] (defScope sShuf) := ⟨rfl, rfl, rfl, by decide +kernel, rfl, by decide +kernel, by decide +kernel⟩
theorem insert_perm {α : Type} (xs : List α) (y : α) (i : Nat) : (xs.take i ++ [y] ++ xs.drop i).Perm (xs ++ [y]) := by
  have h1 : (xs.take i ++ [y] ++ xs.drop i).Perm (y :: (xs.take i ++ xs.drop i)) := by
    rw [List.append_assoc]
    exact List.perm_middle
  rw [List.take_append_drop] at h1
  exact h1.trans (List.perm_append_comm (l₁ := [y]) (l₂ := xs))
section
variable {P : Program} {w : World} {K : PySem.W.Frag} {mg : Str → Option Value} {base : Heap} {C T I : Addr}
def spShuf (K : PySem.W.Frag) : Sp := fun vs H Q _ => ∃ (a b : Addr) (xs : List V) (n : Nat), vs = [.ref a, .ref b] ∧ Purse H a n ∧ n < 2 ^ 30 ∧ SqL K H b xs ∧ b ≠ a ∧ xs.length ≤ 1000 ∧
  ∀ (d : Addr) (ys : List V) H', ys.Perm xs → Keep a H H' → Purse H' a (n + xs.length) → H d = none → d ≠ a → H' d = some (.lst ys) → Q (.ref d) H'
theorem ok_shuf {f fD : Addr} {fd fdD : FuncData} (F : Fun K "_law_shuffled" "_law_shuffled" sShuf f fd) (kD : PySem.W.keepIn K (.ref fD) = true) (GD : FnOk P w K mg base CX0 2 fD fdD ["_law_purse_here", "_law_many"] spDraw) (bD : Binds K fdD ["_law_purse_here", "_law_many"] []) (gD : mg "_law_draw" = some (.ref fD)) (ml : mg "len" = none) :
    FnOk P w K mg base CX0 3 f fd ["_law_purse_here", "_law_some"] (spShuf K) := by
  refine F.ok scShuf (fun vs H Q E h => ?_) (fun cdv A outer s H vs Q E hr h => ?_)
  · obtain ⟨a, b, xs, n, rfl, _⟩ := h
    rfl
  · obtain ⟨a, b, xs, n, rfl, hP, hn, hS, hba, hz, q⟩ := h
    have nd := scShuf.nd
    refine ⟨_, pss_cons (ps_set (i := 2) nd rfl (.inl rfl) (pe_lst pa_nil))
      (pss_cons (ps_for PassesOwn.never rfl (pi_list (pv 1)) (pg_name (i := 3) nd rfl (.inl rfl))
        (pss_one (ps_expr (pe_bm PySem.F.plainAttrs_list PySem.F.slot_list_insert PySem.F.type_list_insert mt_insert (pv 2) (pa_cons (pe_call GD hr (by rfl) gD kD bD .nil pass0 (pa_cons (pv 0) (pa_cons (pe_op op_add (pe_callB call_len_seq (by rfl) ml PySem.boot_len (pa_cons (pv 2) pa_nil)) pe_int) pa_nil))) (pa_cons (pv 3) pa_nil))))))
      (pss_one (ps_ret (pv 2)))), ?_⟩
    refine ⟨Nat.zero_le _, fun D nD => ?_⟩
    have hDa : D ≠ a := fun z => by obtain ⟨_, _, _, _, e, _⟩ := hP; rw [z, e] at nD; cases nD
    refine ⟨_, rfl, b, rfl, ⟨_, SqL.same (same_upd nD) hS⟩, for_list (xs := xs) (fun i σ H' => Keep a H H' ∧ Purse H' a (n + i) ∧ (∃ ys, H' D = some (.lst ys) ∧ ys.Perm (xs.take i)) ∧ ∃ y3 : Option V, σ = [some (.ref a), some (.ref b), some (.ref D), y3])
      ⟨(same_upd nD).keep, hP.same (same_upd nD), ⟨[], upd_same, by rw [List.take_zero]⟩, _, rfl⟩ (fun i σ H' _ h => h.1.seq hba hS) ?_ ?_⟩
    · rintro i x σ H1 hx ⟨k1, P1, ⟨ys, eD, pm⟩, y3, rfl⟩
      obtain ⟨hi, ex⟩ := List.getElem?_eq_some_iff.mp hx
      have hl : ys.length = i := by rw [pm.length_eq, List.length_take]; omega
      refine ⟨_, rfl, .inl ⟨rfl, _, SqL.of eD⟩, ?_⟩
      refine ⟨_, rfl, _, rfl, D, ys, rfl, .inl (SqL.of eD), _, _, rfl, rfl, a, (ys.length : Int) + 1, n + i, rfl, P1, by omega, by omega, by omega, fun r H2 r0 r1 k2 P2 => ?_⟩
      have eD2 := k2 _ _ hDa eD
      have s100 := sz 1000 (by decide)
      refine ⟨_, rfl, D, ys, r, x, rfl, rfl, eD2, by omega, r0, by omega, ?_⟩
      refine ⟨fun c o hc e => ?_, P2.keep (b := D) keep_upd hDa.symm, ⟨_, upd_same, ?_⟩, _, rfl⟩
      · rw [upd_ne (ne_of_none e nD)]
        exact (k1.trans k2) c o hc e
      · rw [List.take_succ_eq_append_getElem hi, ex]
        exact (insert_perm ys x r.toNat).trans (pm.append_right _)
    · rintro σ H1 ⟨k1, P1, ⟨ys, eD, pm⟩, y3, rfl⟩
      rw [List.take_length] at pm
      exact ⟨_, rfl, q D ys H1 pm k1 P1 nD hDa eD⟩
end
end K2

set_option Elab.async false
set_option linter.all false
set_option maxRecDepth 100000
set_option maxHeartbeats 8000000
/-! k03: the law's own count of words -/
namespace K2
open PySem PySem.Spec PyProof.Rows L2 EL LW ND
open Ln (L isLet isWord isSign isTok)
/-- the letters' numbers, the last one first -/
def dg (n : Nat) : List Nat := if h : n = 0 then [] else (n - 1) % 26 :: dg ((n - 1) / 26)
termination_by n
decreasing_by omega
theorem dg_zero : dg 0 = [] := by
  rw [dg]
  rfl
theorem dg_pos {n : Nat} (h : 0 < n) : dg n = (n - 1) % 26 :: dg ((n - 1) / 26) := by
  rw [dg]
  rw [dif_neg (by omega)]
theorem wAt_dg : ∀ (k n : Nat), n ≤ k → wAt n = (dg n).reverse.map fun d => 97 + d
  | 0, n, h => by
    obtain rfl : n = 0 := by omega
    rw [wAt_zero, dg_zero]
    rfl
  | k + 1, n, h => by
    rcases Nat.eq_zero_or_pos n with rfl | c
    · rw [wAt_zero, dg_zero]
      rfl
    · rw [wAt_pos c, dg_pos c, List.reverse_cons, List.map_append, wAt_dg k _ (by omega)]
      rfl
/-- one more -/
def inc : List Nat → List Nat
  | [] => [0]
  | d :: ds => if d = 25 then 0 :: inc ds else (d + 1) :: ds
theorem inc_dg : ∀ (k n : Nat), n ≤ k → inc (dg n) = dg (n + 1)
  | 0, n, h => by
    obtain rfl : n = 0 := by omega
    rw [dg_zero, dg_pos (by omega)]
    show [0] = (0 % 26) :: dg (0 / 26)
    rw [Nat.zero_mod, Nat.zero_div, dg_zero]
  | k + 1, n, h => by
    rcases Nat.eq_zero_or_pos n with rfl | c
    · rw [dg_zero, dg_pos (by omega)]
      show [0] = (0 % 26) :: dg (0 / 26)
      rw [Nat.zero_mod, Nat.zero_div, dg_zero]
    · rw [dg_pos c, dg_pos (n := n + 1) (by omega)]
      unfold inc
      by_cases e : (n - 1) % 26 = 25
      · rw [if_pos e, inc_dg k _ (by omega)]
        have h1 : (n + 1 - 1) % 26 = 0 := by omega
        have h2 : (n + 1 - 1) / 26 = (n - 1) / 26 + 1 := by omega
        rw [h1, h2]
      · rw [if_neg e]
        have h1 : (n + 1 - 1) % 26 = (n - 1) % 26 + 1 := by omega
        have h2 : (n + 1 - 1) / 26 = (n - 1) / 26 := by omega
        rw [h1, h2]
theorem dg_lt : ∀ (k n : Nat), n ≤ k → ∀ d ∈ dg n, d < 26
  | 0, n, h, d, hd => by
    obtain rfl : n = 0 := by omega
    rw [dg_zero] at hd
    cases hd
  | k + 1, n, h, d, hd => by
    rcases Nat.eq_zero_or_pos n with rfl | c
    · rw [dg_zero] at hd
      cases hd
    · rw [dg_pos c] at hd
      rcases List.mem_cons.mp hd with rfl | hd
      · exact Nat.mod_lt _ (by decide)
      · exact dg_lt k _ (by omega) d hd
/-- how the law counts on: the nines of the front go to nought, the next one up -/
theorem inc_front (z : Nat) (ds : List Nat) (h : ∀ d, ds.head? = some d → d ≠ 25) : inc (List.replicate z 25 ++ ds) = List.replicate z 0 ++ inc ds := by
  induction z with
  | zero => rfl
  | succ z ih =>
    rw [List.replicate_succ, List.replicate_succ]
    show (if 25 = 25 then 0 :: inc (List.replicate z 25 ++ ds) else (25 + 1) :: (List.replicate z 25 ++ ds)) = _
    rw [if_pos rfl, ih]
    rfl
/-- free words go on from one to the next -/
theorem freeTo_prefix (p : L → Bool) : ∀ n m, n ≤ m → freeTo p n <+: freeTo p m
  | n, m, h => by
    obtain ⟨d, rfl⟩ := Nat.exists_eq_add_of_le h
    induction d with
    | zero => exact List.prefix_refl _
    | succ d ih =>
      rw [Nat.add_succ, freeTo_step]
      exact (ih (by omega)).trans (List.prefix_append _ _)
/-- as many free words are the same ones -/
theorem freeTo_same {p : L → Bool} {n m : Nat} (h : (freeTo p n).length = (freeTo p m).length) : freeTo p n = freeTo p m := by
  rcases Nat.le_total n m with c | c
  · exact (freeTo_prefix p n m c).eq_of_length h
  · exact ((freeTo_prefix p m n c).eq_of_length h.symm).symm
end K2

set_option Elab.async false
set_option linter.all false
set_option maxRecDepth 100000
set_option maxHeartbeats 8000000
/-! k03: the fixed tokens are what stands in the patterns -/
namespace K2
open PySem PySem.Spec PyProof.Rows L2 EL LW ND
open Ln (L isLet isWord isSign isTok)
theorem owns_iff {l : Lv} {x : Str} : x ∈ ownsM (lvFold l) ↔ ∃ k i, (k, i) ∈ l ∧ ownT k = some x := by
  unfold ownsM
  rw [List.mem_filterMap]
  refine ⟨fun ⟨q, hq, e⟩ => ?_, fun ⟨k, i, h, e⟩ => ?_⟩
  · obtain ⟨i, hi⟩ := lvFold_mem l [] (fun k => ∃ i, (k, i) ∈ l) (fun q hq => by cases hq) (fun q hq => ⟨q.2, hq⟩) q hq
    exact ⟨q.1, i, hi, e⟩
  · obtain ⟨p, hp⟩ := lvFold_has (k := k) l [] (.inr ⟨i, h⟩)
    have h1 := List.mem_of_find?_eq_some hp
    have h2 : p.1 = k := of_decide_eq_true (List.find?_some (p := fun q : NestedKey × Int => decide (q.1 = k)) hp)
    exact ⟨p, h1, by rw [h2]; exact e⟩
def ownS (p : List Str) : Str := if p.getD 0 hole = hole then p.getD 1 hole else p.getD 0 hole
theorem ownT_own (p : List Str) : ownT (ownN p) = some (ownS p) := by
  unfold ownN ownS
  split
  · show (if tTail = tHead ∨ tTail = tTail then some (p.getD 1 hole) else none) = _
    rw [if_pos (Or.inr rfl)]
  · show (if tHead = tHead ∨ tHead = tTail then some (p.getD 0 hole) else none) = _
    rw [if_pos (Or.inl rfl)]
theorem left_ne : ¬ (tLeft = tHead ∨ tLeft = tTail) := by decide +kernel
theorem ownT_hole (p : List Str) (i : Nat) : ownT (holeN p i) = none := by
  unfold holeN
  split
  · show (if tLeft = tHead ∨ tLeft = tTail then some (p.getD 1 hole) else none) = _
    rw [if_neg left_ne]
  · rfl
theorem keys_in {f : Fm} (h : FmOk f) {k : NestedKey} (hk : k ∈ keysN f.pat) : ∃ i, (k, i) ∈ keyLevs f := by
  have hl : (keysN f.pat).length = (f.lev :: f.levs).length := by rw [keysN_len, List.length_cons, h.len]
  obtain ⟨n, hn, e⟩ := List.getElem_of_mem hk
  refine ⟨(f.lev :: f.levs)[n]'(by omega), ?_⟩
  unfold keyLevs
  refine List.mem_iff_getElem.mpr ⟨n, by rw [List.length_zip]; omega, ?_⟩
  rw [List.getElem_zip, e]
theorem owns_forms {fs : List Fm} (hok : ∀ f ∈ fs, FmOk f) {x : Str} : x ∈ ownsM (lvFold (allLv fs)) ↔ ∃ f ∈ fs, x = ownS f.pat := by
  rw [owns_iff]
  refine ⟨fun ⟨k, i, h, e⟩ => ?_, fun ⟨f, hf, e⟩ => ?_⟩
  · obtain ⟨f, hf, hq⟩ := List.mem_flatMap.mp h
    have hk := (List.of_mem_zip (show (k, i) ∈ (keysN f.pat).zip (f.lev :: f.levs) from hq)).1
    unfold keysN at hk
    rcases List.mem_cons.mp hk with rfl | hk
    · rw [ownT_own] at e
      exact ⟨f, hf, (Option.some.inj e).symm⟩
    · obtain ⟨j, _, rfl⟩ := List.mem_map.mp hk
      rw [ownT_hole] at e
      cases e
  · obtain ⟨i, hi⟩ := keys_in (hok f hf) (k := ownN f.pat) List.mem_cons_self
    exact ⟨_, i, List.mem_flatMap.mpr ⟨f, hf, hi⟩, by rw [ownT_own, e]⟩
/-- the fixed tokens of one pattern -/
theorem pat_items {p : List Str} (h : PatOk p) {x : Str} : (x = ownS p ∨ x ∈ midsOf p) ↔ x ∈ p ∧ x ≠ hole := by
  have l1 := h.len1
  have two := h.plc.two
  match p, l1, h, two with
  | y :: r, _, h, two =>
    have e0 : (y :: r).getD 0 hole = y := rfl
    by_cases c : y = hole
    · have l2 := two c
      match r, l2, h with
      | z :: r, _, h =>
        have hz : z ≠ hole := by
          have := h.apart 0 (by rw [c]; rfl)
          intro e
          exact this (by rw [e]; rfl)
        have eo : ownS (y :: z :: r) = z := by
          unfold ownS
          rw [if_pos (show (y :: z :: r).getD 0 hole = hole from c)]
          rfl
        have em : midsOf (y :: z :: r) = r.filter fun x => decide (x ≠ hole) := by
          unfold midsOf
          rw [show isT (y :: z :: r) = true from decide_eq_true c]
          rfl
        rw [eo, em, List.mem_filter, List.mem_cons, List.mem_cons]
        refine ⟨fun hx => ?_, fun ⟨hx, hn⟩ => ?_⟩
        · rcases hx with rfl | ⟨h1, h2⟩
          · exact ⟨.inr (.inl rfl), hz⟩
          · exact ⟨.inr (.inr h1), of_decide_eq_true h2⟩
        · rcases hx with rfl | rfl | hx
          · exact absurd c hn
          · exact .inl rfl
          · exact .inr ⟨hx, decide_eq_true hn⟩
    · have eo : ownS (y :: r) = y := by
        unfold ownS
        rw [if_neg (show ¬ (y :: r).getD 0 hole = hole from c)]
        rfl
      have em : midsOf (y :: r) = r.filter fun x => decide (x ≠ hole) := by
        unfold midsOf
        rw [show isT (y :: r) = false from decide_eq_false c]
        rfl
      rw [eo, em, List.mem_filter, List.mem_cons]
      refine ⟨fun hx => ?_, fun ⟨hx, hn⟩ => ?_⟩
      · rcases hx with rfl | ⟨h1, h2⟩
        · exact ⟨.inl rfl, c⟩
        · exact ⟨.inr h1, of_decide_eq_true h2⟩
      · rcases hx with rfl | hx
        · exact .inl rfl
        · exact .inr ⟨hx, decide_eq_true hn⟩
theorem fixedIn_iff {q : List Fm × List Str} (hok : ∀ f ∈ q.1, FmOk f) {x : Str} : fixedIn q x ↔ ∃ f ∈ q.1, x ∈ f.pat ∧ x ≠ hole := by
  have hok2 : ∀ f ∈ srtF q.1, FmOk f := fun f hf => hok f ((srtF_perm q.1).mem_iff.mp hf)
  have hm : x ∈ midsM (patsOf (srtF q.1)) ↔ ∃ f ∈ srtF q.1, x ∈ midsOf f.pat := by
    unfold midsM patsOf
    rw [List.mem_flatMap]
    refine ⟨fun ⟨p, hp, h⟩ => ?_, fun ⟨f, hf, h⟩ => ⟨f.pat, List.mem_map.mpr ⟨f, hf, rfl⟩, h⟩⟩
    obtain ⟨f, hf, rfl⟩ := List.mem_map.mp hp
    exact ⟨f, hf, h⟩
  unfold fixedIn
  rw [owns_forms hok2, hm]
  refine ⟨fun h => ?_, fun ⟨f, hf, h⟩ => ?_⟩
  · rcases h with ⟨f, hf, e⟩ | ⟨f, hf, e⟩
    · exact ⟨f, (srtF_perm q.1).mem_iff.mp hf, (pat_items (hok2 f hf).pat).mp (.inl e)⟩
    · exact ⟨f, (srtF_perm q.1).mem_iff.mp hf, (pat_items (hok2 f hf).pat).mp (.inr e)⟩
  · have hf2 := (srtF_perm q.1).mem_iff.mpr hf
    rcases (pat_items (hok f hf).pat).mpr h with e | e
    · exact .inl ⟨f, hf2, e⟩
    · exact .inr ⟨f, hf2, e⟩
end K2

set_option Elab.async false
set_option linter.all false
set_option maxRecDepth 100000
set_option maxHeartbeats 8000000
/-! k03: _law_count_up -/
namespace K2
open PySem PySem.Spec PyProof.Rows L2 EL LW ND
open Ln (L isLet isWord isSign isTok)
abbrev sCount : Stmt := topS 92
abbrev nCount : List Str := ["_law_fixed", "_law_many", "_law_found", "_law_letters", "_law_word_here", "_law_turn", "_law_spelt", "_law_place", "_law_at"]
theorem scCount : FnScope nCount ["_law_fixed", "_law_many"] (defScope sCount) := ⟨rfl, rfl, rfl, by decide +kernel, rfl, by decide +kernel, by decide +kernel⟩
theorem joinL_ones : ∀ l : List Nat, TL.joinL [] (l.map fun c => [c]) = l
  | [] => rfl
  | [c] => rfl
  | c :: d :: r => by
    show [c] ++ ([] ++ TL.joinL [] ((d :: r).map fun c => [c])) = _
    rw [joinL_ones (d :: r)]
    rfl
def oneS (c : Nat) : Str := ⟨#[c]⟩
theorem joinOnes (l : List Nat) : Txt.join (Str.ofString "") (l.map oneS) = S l := by
  refine cp_inj ?_
  show TL.tl _ = l
  rw [TL.join_eq, TL.tl_join, show TL.tl (Str.ofString "") = [] from by decide +kernel, List.map_map]
  exact joinL_ones l
theorem split25 : ∀ ds : List Nat, ∃ z rest, ds = List.replicate z 25 ++ rest ∧ ∀ d, rest.head? = some d → d ≠ 25
  | [] => ⟨0, [], rfl, fun d h => by cases h⟩
  | d :: ds => by
    by_cases c : d = 25
    · obtain ⟨z, rest, e, h⟩ := split25 ds
      exact ⟨z + 1, rest, by rw [c, List.replicate_succ, e]; rfl, h⟩
    · exact ⟨0, d :: ds, rfl, fun d' h => by obtain rfl := Option.some.inj h; exact c⟩
theorem set_at {α : Type} (e : Nat) (a x y : α) (r : List α) : (List.replicate e a ++ x :: r).set e y = List.replicate e a ++ y :: r := by
  induction e with
  | zero => rfl
  | succ e ih =>
    rw [List.replicate_succ, List.cons_append, List.set_cons_succ, ih]
    rfl
theorem rep_snoc {α : Type} (e : Nat) (a : α) (r : List α) : List.replicate e a ++ a :: r = List.replicate (e + 1) a ++ r := by
  induction e with
  | zero => rfl
  | succ e ih =>
    rw [List.replicate_succ, List.cons_append, ih]
    rfl
theorem ixN_at {n e : Nat} (h : e < n) : ixN n (e : Int) = some e := by
  unfold ixN
  rw [if_pos (by omega), if_pos (by omega)]
  simp
theorem dg_len : ∀ (k n : Nat), n ≤ k → (dg n).length ≤ n
  | 0, n, h => by
    obtain rfl : n = 0 := by omega
    rw [dg_zero]
    exact Nat.le_refl _
  | k + 1, n, h => by
    rcases Nat.eq_zero_or_pos n with rfl | c
    · rw [dg_zero]
      exact Nat.le_refl _
    · have := dg_len k ((n - 1) / 26) (by omega)
      rw [dg_pos c, List.length_cons]
      omega
/-- so many free words are all that stand up to some place -/
theorem freeTo_some (p : L → Bool) (n : Nat) : ∀ m, n ≤ (freeTo p m).length → ∃ k, k ≤ m ∧ (freeTo p k).length = n
  | 0, h => ⟨0, Nat.le_refl _, by have : (freeTo p 0).length = 0 := rfl; omega⟩
  | m + 1, h => by
    rcases Nat.lt_or_ge n ((freeTo p m).length + 1) with c | c
    · obtain ⟨k, hk, e⟩ := freeTo_some p n m (by omega)
      exact ⟨k, by omega, e⟩
    · refine ⟨m + 1, Nat.le_refl _, ?_⟩
      rw [freeTo_step, List.length_append] at h ⊢
      have : (if p (wAt (m + 1)) then ([] : List L) else [wAt (m + 1)]).length ≤ 1 := by split <;> simp
      omega
theorem take_free {p : L → Bool} {n m : Nat} (h : n ≤ (freeTo p m).length) : ∃ k, (freeTo p k).length = n ∧ (freeTo p m).take n = freeTo p k := by
  obtain ⟨k, hk, e⟩ := freeTo_some p n m h
  refine ⟨k, e, ?_⟩
  obtain ⟨t, ht⟩ := freeTo_prefix p k m hk
  rw [← ht, ← e, List.take_left']
  rfl
section
variable {P : Program} {w : World} {K : PySem.W.Frag} {mg : Str → Option Value} {base : Heap} {C T I : Addr}
def spCountUp (K : PySem.W.Frag) : Sp := fun vs H Q _ => ∃ (b : Addr) (fx : List Str) (n : Nat), vs = [.ref b, .int n] ∧ SqL K H b (fx.map V.str) ∧ n ≤ 1000 ∧ n ≤ (freeTo (fun t => decide (S t ∈ fx)) (n + 60)).length ∧
  ∀ (d : Addr) (ws : List L) (m : Nat) H', Same H H' → H d = none → H' d = some (.lst (vl ws)) → ws = freeTo (fun t => decide (S t ∈ fx)) m → ws.length = n → Q (.ref d) H'
theorem ok_countup {f : Addr} {fd : FuncData} {k : Nat} (F : Fun K "_law_count_up" "_law_count_up" sCount f fd) (ml : mg "len" = none) (mr : mg "range" = none) (mrv : mg "reversed" = none) :
    FnOk P w K mg base CX0 (k + 1) f fd ["_law_fixed", "_law_many"] (spCountUp K) := by
  refine F.ok scCount (fun vs H Q E h => ?_) (fun cdv A outer s H vs Q E hr h => ?_)
  · obtain ⟨b, fx, n, rfl, _⟩ := h
    rfl
  · obtain ⟨b, fx, n, rfl, hS, hn, hfx, q⟩ := h
    have nd := scCount.nd
    refine ⟨_, pss_cons (ps_asg (pe_tup (pa_cons (pe_lst pa_nil) (pa_cons pe_str (pa_cons (pe_lst (pa_cons pe_int pa_nil)) pa_nil)))) (pg_tup (by rfl) (pgs_cons (pg_name (i := 2) nd rfl (.inl rfl)) (pgs_cons (pg_name (i := 3) nd rfl (.inr rfl)) (pgs_cons (pg_name (i := 4) nd rfl (.inl rfl)) pgs_nil)))))
      (pss_cons (ps_for PassesOwn.never rfl (pi_range1 rfl mr (pa_cons (pe_op op_add (pv 1) pe_int) pa_nil)) (pg_name (i := 5) nd rfl (.inl rfl))
        (pss_cons (ps_set (i := 6) nd rfl (.inl rfl) (pe_join pe_str (pe_lc (own := [("_law_at", 8)]) (g := gName 8) (tt := tYes) rfl nd (pi_reversed rfl mrv (pa_cons (pv 4) pa_nil)) (blkOk_by (own := [("_law_at", 8)]) (N := nCount) (sc := defScope sCount) (by decide +kernel)) (fun _ _ _ _ _ => pg_name (i := 8) nd rfl (Or.inl rfl)) (fun _ _ _ _ _ => pts_nil) (fun _ _ _ _ _ => pe_ix ix_str (pv 3) (pv 8) (fun _ _ => rfl)))))
        (pss_cons (ps_if (PW.pt (pw_and (pt_cmpR op_lt (pe_callB call_len_seq (by rfl) ml PySem.boot_len (pa_cons (pv 2) pa_nil)) (pv 1) (nomark _)) (pw_and1 (pt_cmpR op_notIn_seq (pv 6) (pv 0) (by rfl)))))
          (pss_one (ps_expr (pe_bm PySem.F.plainAttrs_list PySem.F.slot_list_append PySem.F.type_list_append mt_append (pv 2) (pa_cons (pv 6) pa_nil)))) pss_nil)
        (pss_cons (ps_set (i := 7) nd rfl (.inl rfl) pe_int)
        (pss_cons (ps_while PassesOwn.never (PW.pt (pw_and (pt_cmpR op_lt (pv 7) (pe_callB call_len_seq (by rfl) ml PySem.boot_len (pa_cons (pv 4) pa_nil)) (nomark _)) (pw_and1 (pt_cmpR op_eq (pe_ix ix_list (pv 4) (pv 7) (fun _ _ => rfl)) pe_int (nomark _)))))
          (pss_cons (ps_asg pe_int (pg_sub (pv 4) (pv 7) set_list)) (pss_one (ps_set (i := 7) nd rfl (.inl rfl) (pe_op op_add (pv 7) pe_int)))))
        (pss_cons (ps_if (pt_cmpR op_eq (pv 7) (pe_callB call_len_seq (by rfl) ml PySem.boot_len (pa_cons (pv 4) pa_nil)) (nomark _)) (pss_one (ps_expr (pe_bm PySem.F.plainAttrs_list PySem.F.slot_list_append PySem.F.type_list_append mt_append (pv 4) (pa_cons (pe_un un_neg pe_int) pa_nil)))) pss_nil)
        (pss_one (ps_asg (pe_op op_add (pe_ix ix_list (pv 4) (pv 7) (fun _ _ => rfl)) pe_int) (pg_sub (pv 4) (pv 7) set_list)))))))))
      (pss_one (ps_ret (pv 2)))), ?_⟩
    have abc2 : ∀ i : Nat, i < 26 → atI (Str.ofString "abcdefghijklmnopqrstuvwxyz").cps.toList (i : Int) = some (97 + i) := fun i h => atI_nat (abc i h)
    refine ⟨Nat.zero_le _, fun Fd nF => ⟨sz 1 (by decide), fun WL nWL => ⟨sz 3 (by decide), fun t nt => ⟨t, _, rfl, SqT.of upd_same, rfl, _, _, rfl, _, _, rfl, _, _, rfl, rfl, ?_⟩⟩⟩⟩
    have uF := same_upd (o := .lst []) nF
    have uW := same_upd (o := .lst [V.int 0]) nWL
    have ut := same_upd (o := .tup [V.ref Fd, V.str (Str.ofString "abcdefghijklmnopqrstuvwxyz"), V.ref WL]) nt
    have hFW : Fd ≠ WL := fun z => by rw [← z, upd_same] at nWL; cases nWL
    have nWH : H WL = none := by rw [upd_ne hFW.symm] at nWL; exact nWL
    have s0 := (uF.trans uW).trans ut
    refine ⟨_, rfl, _, _, rfl, rfl, _, rfl, by omega, by omega, ?_⟩
    rw [show ((n : Int) + 60).toNat = n + 60 from by omega]
    refine for_range (fun i σ H' => Same H H' ∧ H' Fd = some (.lst (vl ((freeTo (fun t => decide (S t ∈ fx)) i).take n))) ∧ H' WL = some (.lst ((dg (i + 1)).map fun (d : Nat) => V.int (d : Int))) ∧ ∃ y5 y6 y7 : Option V, σ = [some (.ref b), some (.int n), some (.ref Fd), some (.str (Str.ofString "abcdefghijklmnopqrstuvwxyz")), some (.ref WL), y5, y6, y7, none])
      ⟨s0, (uW.trans ut) _ _ (by rw [upd_same, show freeTo (fun t => decide (S t ∈ fx)) 0 = [] from rfl, List.take_nil]; rfl), ut _ _ (by rw [upd_same, dg_pos (by omega), show (0 + 1 - 1) / 26 = 0 from rfl, dg_zero]; rfl), _, _, _, rfl⟩ ?_ ?_
    · rintro i σ H1 hi ⟨s1, eF, eW, y5, y6, y7, rfl⟩
      have dlen := dg_len _ (i + 1) (Nat.le_refl _)
      have dlt := dg_lt _ (i + 1) (Nat.le_refl _)
      have hdl : ((dg (i + 1)).map fun (d : Nat) => V.int (d : Int)).length = (dg (i + 1)).length := List.length_map ..
      have s2k := sz 2000 (by decide)
      refine ⟨⟨_, rfl⟩, _, rfl, WL, _, rfl, SqL.of eW, fun D nD => ?_⟩
      refine lc_same walk_rev nD (((dg (i + 1)).reverse.map fun d => oneS (97 + d)).map V.str) (by rw [List.length_map, List.length_map, List.length_reverse, hdl]) (by rw [hdl]; omega) (fun H' s' => SqL.of (s' _ _ eW)) ?_ ?_
      · rintro j y H2 H2' hj s2 ⟨rfl, hy⟩
        refine ⟨Same.refl _, rfl, fun Q' q' => ?_⟩
        rw [hdl] at hj hy
        rw [List.getElem?_map] at hy
        obtain ⟨d, hd, rfl⟩ := Option.map_eq_some_iff.mp hy
        refine ⟨_, rfl, _, rfl, _, _, _, rfl, rfl, by decide +kernel, abc2 d (dlt d (List.mem_of_getElem? hd)), q' _ _ (Same.refl _) ?_⟩
        rw [List.getElem?_map, List.getElem?_map, List.getElem?_reverse hj, hd]
        rfl
      · intro H2 s2 eD
        have hjoin : Txt.join (Str.ofString "") ((dg (i + 1)).reverse.map fun d => oneS (97 + d)) = S (wAt (i + 1)) := by
          rw [wAt_dg _ (i + 1) (Nat.le_refl _), ← joinOnes, List.map_map]
          rfl
        refine ⟨_, D, _, rfl, rfl, .inl (SqL.of eD), ?_, ?_⟩
        · rw [show (Str.ofString "").length = 0 from rfl, Nat.mul_zero, List.map_map]
          have : ∀ l : List Nat, (l.map ((fun x : Str => x.length) ∘ fun d => oneS (97 + d))).sum = l.length := fun l => by
            induction l with
            | nil => rfl
            | cons a l ih => rw [List.map_cons, List.sum_cons, ih, List.length_cons]; show 1 + _ = _; omega
          rw [this, List.length_reverse]
          omega
        rw [hjoin]
        have vlen : ∀ l : List L, (vl l).length = l.length := fun l => by unfold vl; rw [List.length_map]
        have eF2 := s2 _ _ eF
        have eW2 := s2 _ _ eW
        have s12 := s1.trans s2
        refine ⟨_, rfl, Fd, _, rfl, .inl (SqL.of eF2), _, rfl, _, _, rfl, rfl, _, rfl, ?_⟩
        rw [vlen, List.length_take]
        have tkA : n ≤ (freeTo (fun t => decide (S t ∈ fx)) i).length → (freeTo (fun t => decide (S t ∈ fx)) (i + 1)).take n = (freeTo (fun t => decide (S t ∈ fx)) i).take n := fun ge => by
          rw [freeTo_step, List.take_append_of_le_length ge]
        have tkB : S (wAt (i + 1)) ∈ fx → (freeTo (fun t => decide (S t ∈ fx)) (i + 1)).take n = (freeTo (fun t => decide (S t ∈ fx)) i).take n := fun c => by
          rw [freeTo_step, if_pos (decide_eq_true c), List.append_nil]
        have tkC : (freeTo (fun t => decide (S t ∈ fx)) i).length < n → ¬ S (wAt (i + 1)) ∈ fx → (freeTo (fun t => decide (S t ∈ fx)) (i + 1)).take n = (freeTo (fun t => decide (S t ∈ fx)) i).take n ++ [wAt (i + 1)] := fun lt c => by
          rw [freeTo_step, if_neg (by simpa using c), List.take_of_length_le (by rw [List.length_append, List.length_singleton]; omega), List.take_of_length_le (Nat.le_of_lt lt)]
        refine (fun (rest : ∀ H3 : Hp, Same H H3 → H3 Fd = some (.lst (vl ((freeTo (fun t => decide (S t ∈ fx)) (i + 1)).take n))) → H3 WL = some (.lst ((dg (i + 1)).map fun (d : Nat) => V.int (d : Int))) → (?G : Hp → Prop) H3) => ?main) ?proof
        case main =>
          rcases Nat.lt_or_ge (freeTo (fun t => decide (S t ∈ fx)) i).length n with lt | ge
          · rw [decide_eq_true (by omega)]
            refine iteT ⟨_, rfl, _, rfl, b, _, rfl, .inl (SqL.same s12 hS), rfl, flat_strs _, _, rfl, ?_⟩
            rw [if_pos rfl, inV_strs]
            by_cases c : S (wAt (i + 1)) ∈ fx
            · rw [decide_eq_true c]
              refine iteF ?_
              exact rest H2 s12 (by rw [tkB c]; exact eF2) eW2
            · rw [decide_eq_false c]
              refine iteT ⟨_, rfl, .inl ⟨rfl, _, SqL.of eF2⟩, _, rfl, Fd, _, _, rfl, rfl, eF2, by rw [vlen, List.length_take]; omega, ?_⟩
              refine rest _ (same_over nF s12) ?_ ?_
              · rw [upd_same, tkC lt c]
                unfold vl
                rw [List.map_append]
                rfl
              · rw [upd_ne hFW.symm]
                exact eW2
          · rw [decide_eq_false (by omega)]
            refine iteF (iteF ?_)
            exact rest H2 s12 (by rw [tkA ge]; exact eF2) eW2
        case proof =>
          intro H3 s3 eF3 eW3
          obtain ⟨z, rs, ez, hrs⟩ := split25 (dg (i + 1))
          have hdsl : (dg (i + 1)).length = z + rs.length := by rw [ez, List.length_append, List.length_replicate]
          have fin : ∀ (m : Nat) (xs : List Nat), (xs.map fun (d : Nat) => V.int (d : Int)).length = xs.length := fun _ xs => List.length_map ..
          refine ⟨fun mm σ H' => ∃ e : Nat, e ≤ z ∧ mm = z + 1 - e ∧ Same H H' ∧ H' Fd = some (.lst (vl ((freeTo (fun t => decide (S t ∈ fx)) (i + 1)).take n))) ∧ H' WL = some (.lst ((List.replicate e 0 ++ (List.replicate (z - e) 25 ++ rs)).map fun (d : Nat) => V.int (d : Int))) ∧
            σ = [some (.ref b), some (.int n), some (.ref Fd), some (.str (Str.ofString "abcdefghijklmnopqrstuvwxyz")), some (.ref WL), some (.int (0 + (i : Int))), some (.str (S (wAt (i + 1)))), some (.int (e : Nat)), none], ⟨_, 0, Nat.zero_le _, rfl, s3, eF3, by rw [eW3, ez]; rfl, rfl⟩, ?_⟩
          rintro mm σ H4 ⟨e, he, rfl, s4, eF4, eW4, rfl⟩
          have l4 : ((List.replicate e 0 ++ (List.replicate (z - e) 25 ++ rs)).map fun (d : Nat) => V.int (d : Int)).length = z + rs.length := by
            rw [List.length_map, List.length_append, List.length_append, List.length_replicate, List.length_replicate]
            omega
          refine ⟨_, rfl, _, rfl, WL, _, rfl, .inl (SqL.of eW4), _, _, rfl, rfl, _, rfl, ?_⟩
          rw [l4]
          have dropE : (List.replicate e 0 ++ (List.replicate (z - e) 25 ++ rs))[e]? = (List.replicate (z - e) 25 ++ rs)[0]? := by
            rw [List.getElem?_append_right (by rw [List.length_replicate]; exact Nat.le_refl _), List.length_replicate, Nat.sub_self]
          rcases Nat.lt_or_ge e (z + rs.length) with lt | ge
          · rw [decide_eq_true (by omega)]
            rcases Nat.lt_or_ge e z with lz | gz
            · have hget : (List.replicate e 0 ++ (List.replicate (z - e) 25 ++ rs))[e]? = some 25 := by
                rw [dropE, show z - e = (z - e - 1) + 1 from by omega, List.replicate_succ]
                rfl
              have hgV : ((List.replicate e 0 ++ (List.replicate (z - e) 25 ++ rs)).map fun (d : Nat) => V.int (d : Int))[e]? = some (V.int 25) := by
                rw [List.getElem?_map, hget]
                rfl
              refine iteT ⟨_, rfl, _, rfl, WL, _, e, _, rfl, rfl, SqL.of eW4, atI_nat hgV, rfl, _, rfl, ?_⟩
              rw [decide_eq_true rfl]
              refine iteT ⟨fun σ' H' => e + 1 ≤ z ∧ Same H H' ∧ H' Fd = some (.lst (vl ((freeTo (fun t => decide (S t ∈ fx)) (i + 1)).take n))) ∧ H' WL = some (.lst ((List.replicate (e + 1) 0 ++ (List.replicate (z - (e + 1)) 25 ++ rs)).map fun (d : Nat) => V.int (d : Int))) ∧
                σ' = [some (.ref b), some (.int n), some (.ref Fd), some (.str (Str.ofString "abcdefghijklmnopqrstuvwxyz")), some (.ref WL), some (.int (0 + (i : Int))), some (.str (S (wAt (i + 1)))), some (.int ((e + 1 : Nat) : Int)), none], fun σ' H' ⟨g1, g2, g3, g4, g5⟩ => ⟨z + 1 - (e + 1), by omega, e + 1, g1, rfl, g2, g3, g4, g5⟩, ?_⟩
              refine ⟨_, rfl, _, rfl, WL, _, _, e, rfl, rfl, eW4, ?_, _, rfl, _, _, rfl, rfl, by omega, same_over nWH s4, ?_, ?_, rfl⟩
              · rw [l4]
                exact ixN_at lt
              · rw [upd_ne hFW]
                exact eF4
              · rw [upd_same, show V.int 0 = (fun (d : Nat) => V.int (d : Int)) 0 from rfl, ← List.map_set, show z - e = (z - (e + 1)) + 1 from by omega, List.replicate_succ, List.cons_append, set_at, rep_snoc]
            · have ee : e = z := by omega
              subst ee
              cases rs with
              | nil => exact absurd lt (by simp)
              | cons d r =>
                have hd : d ≠ 25 := hrs d rfl
                rw [Nat.sub_self] at eW4 l4
                have eW5 : H4 WL = some (.lst ((List.replicate e 0 ++ d :: r).map fun (d : Nat) => V.int (d : Int))) := eW4
                have l5 : ((List.replicate e 0 ++ d :: r).map fun (d : Nat) => V.int (d : Int)).length = e + (d :: r).length := l4
                have hgV : ((List.replicate e 0 ++ d :: r).map fun (d : Nat) => V.int (d : Int))[e]? = some (V.int (d : Int)) := by
                  rw [List.getElem?_map, List.getElem?_append_right (by rw [List.length_replicate]; exact Nat.le_refl _), List.length_replicate, Nat.sub_self]
                  rfl
                refine iteT ⟨_, rfl, _, rfl, WL, _, e, _, rfl, rfl, SqL.of eW5, atI_nat hgV, rfl, _, rfl, ?_⟩
                rw [show decide (V.int (d : Int) = V.int 25) = false from decide_eq_false fun z => hd (by injection z with z; omega)]
                refine iteF ?_
                refine ⟨_, rfl, _, rfl, WL, _, rfl, .inl (SqL.of eW5), rfl, _, rfl, ?_⟩
                rw [l5, show decide (V.int (e : Int) = V.int ((e + (d :: r).length : Nat) : Int)) = false from decide_eq_false fun z => by injection z with z; rw [List.length_cons] at z; omega]
                refine iteF ?_
                refine ⟨_, rfl, _, rfl, WL, _, e, _, rfl, rfl, SqL.of eW5, atI_nat hgV, _, _, rfl, rfl, _, rfl, _, rfl, WL, _, _, e, rfl, rfl, eW5, by rw [l5]; exact ixN_at lt, same_over nWH s4, ?_, ?_, _, _, _, rfl⟩
                · rw [upd_ne hFW]
                  exact eF4
                · rw [upd_same, ← inc_dg _ (i + 1) (Nat.le_refl _), ez, inc_front e (d :: r) hrs]
                  show some (HO.lst (List.set _ e ((fun (d : Nat) => V.int (d : Int)) (d + 1)))) = some (HO.lst ((List.replicate e 0 ++ (if d = 25 then 0 :: inc r else (d + 1) :: r)).map _))
                  rw [if_neg hd, ← List.map_set, set_at]
          · rw [decide_eq_false (by omega)]
            refine iteF (iteF ?_)
            have ee : e = z := by omega
            subst ee
            cases rs with
            | cons d r => exact absurd ge (by simp)
            | nil =>
              rw [Nat.sub_self] at eW4 l4
              have eW5 : H4 WL = some (.lst ((List.replicate e 0).map fun (d : Nat) => V.int (d : Int))) := by
                rw [eW4]
                show some (HO.lst ((List.replicate e 0 ++ ([] ++ [])).map _)) = _
                rw [List.append_nil, List.append_nil]
              have l5 : ((List.replicate e 0).map fun (d : Nat) => V.int (d : Int)).length = e := by rw [List.length_map, List.length_replicate]
              refine ⟨_, rfl, _, rfl, WL, _, rfl, .inl (SqL.of eW5), rfl, _, rfl, ?_⟩
              rw [l5, decide_eq_true rfl]
              have hW6 : ((List.replicate e 0).map fun (d : Nat) => V.int (d : Int)) ++ [V.int (-1)] = ((List.replicate e (0 : Int)) ++ [-1]).map V.int := by
                rw [List.map_append, List.map_replicate, List.map_replicate]
                rfl
              refine iteT ⟨_, rfl, .inl ⟨rfl, _, SqL.of eW5⟩, _, rfl, WL, _, _, rfl, rfl, eW5, by rw [l5]; omega, ?_⟩
              have l6 : (((List.replicate e 0).map fun (d : Nat) => V.int (d : Int)) ++ [V.int (-1)]).length = e + 1 := by rw [List.length_append, l5, List.length_singleton]
              have hgV : (((List.replicate e 0).map fun (d : Nat) => V.int (d : Int)) ++ [V.int (-1)])[e]? = some (V.int (-1)) := by
                rw [List.getElem?_append_right (by rw [l5]; exact Nat.le_refl _), l5, Nat.sub_self]
                rfl
              refine ⟨_, rfl, _, rfl, WL, _, e, _, rfl, rfl, SqL.of upd_same, atI_nat hgV, _, _, rfl, rfl, _, rfl, _, rfl, WL, _, _, e, rfl, rfl, upd_same, by rw [l6]; exact ixN_at (by omega), same_over nWH (same_over nWH s4), ?_, ?_, _, _, _, rfl⟩
              · rw [upd_ne hFW, upd_ne hFW]
                exact eF4
              · rw [upd_same, ← inc_dg _ (i + 1) (Nat.le_refl _), ez, inc_front e [] hrs]
                show some (HO.lst (List.set (((List.replicate e 0).map fun (d : Nat) => V.int (d : Int)) ++ [V.int (-1)]) e (V.int 0))) = some (HO.lst ((List.replicate e 0 ++ [0]).map fun (d : Nat) => V.int (d : Int)))
                rw [List.map_append, List.map_replicate]
                exact congrArg (fun l => some (HO.lst l)) (set_at e (V.int 0) (V.int (-1)) (V.int 0) [])
    · rintro σ H1 ⟨s1, eF, eW, y5, y6, y7, rfl⟩
      obtain ⟨k, e1, e2⟩ := take_free (p := fun t => decide (S t ∈ fx)) hfx
      rw [e2] at eF
      exact ⟨_, rfl, q Fd _ k H1 s1 nF eF rfl e1⟩
end
end K2

set_option Elab.async false
set_option linter.all false
set_option maxRecDepth 100000
set_option maxHeartbeats 8000000
/-! k03: == of an edition with itself -/
namespace K2
open PySem PySem.Spec PyProof.Rows L2 EL LW ND
abbrev sEdEq : Stmt := meth 57 1
theorem scEdEq : FnScope ["self", "other"] ["self", "other"] (defScope sEdEq) := ⟨rfl, rfl, rfl, by decide +kernel, rfl, by decide +kernel, by decide +kernel⟩
/-- one and the same object -/
def DSame : L2.Eqv := fun x y _ => ∃ a, x = .ref a ∧ y = .ref a
theorem mon_same : Mon DSame := fun _ _ _ _ _ d => d
theorem eqG_same {X : Cx} : EqG X 0 DSame := by
  intro A pins s σ H x y u v sb I rx ry d
  obtain ⟨a, rfl, rfl⟩ := d
  cases rx
  cases ry
  exact SeqAt.EqAt.same (A := A) (s := s) (.ref a) X.prog X.w X.xe _ ⟨rfl, H, I, Ext.rfl'⟩
/-- one and the same object, or equal without parts -/
def DItem : L2.Eqv := fun x y H => DSame x y H ∨ DFlat x y H
theorem mon_item : Mon DItem := Mon.or mon_same mon_flat
theorem eqG_item {X : Cx} : EqG X 0 DItem := EqG.or eqG_same eqG_flat
/-- what the == of editions reads -/
def EdEq (D : Addr) (H : Hp) (a : Addr) : Prop := ∃ dx l1 l2 g ys zs, H a = some (.ins D dx [("_forms", .ref l1), ("_hard", .ref l2), ("grammar", .ref g)]) ∧ H l1 = some (.lst ys) ∧ H l2 = some (.lst zs) ∧ (∀ y ∈ ys, ∃ b, y = .ref b) ∧ (∀ z ∈ zs, ∃ x, z = .str x)
theorem EdEq.same {D : Addr} {H H' : Hp} {a : Addr} (s : Same H H') : EdEq D H a → EdEq D H' a := fun ⟨dx, l1, l2, g, ys, zs, e, e1, e2, h⟩ => ⟨dx, l1, l2, g, ys, zs, s _ _ e, s _ _ e1, s _ _ e2, h⟩
/-- and so it does where something else was changed -/
theorem EdEq.keep {D b : Addr} {H H' : Hp} {a : Addr} {o : HO} (hb : H b = some o) (no : (∀ dx fs, o ≠ .ins D dx fs) ∧ ∀ xs, o ≠ .lst xs) (k : Keep b H H') : EdEq D H a → EdEq D H' a := fun ⟨dx, l1, l2, g, ys, zs, e, e1, e2, h⟩ =>
  ⟨dx, l1, l2, g, ys, zs, k _ _ (fun z => no.1 _ _ (Option.some.inj (hb.symm.trans (z ▸ e)))) e, k _ _ (fun z => no.2 _ (Option.some.inj (hb.symm.trans (z ▸ e1)))) e1, k _ _ (fun z => no.2 _ (Option.some.inj (hb.symm.trans (z ▸ e2)))) e2, h⟩
/-- what the class of editions must say -/
structure EdK (K : PySem.W.Frag) (D : Addr) : Prop where
  ic : C8.InsC K D
  nl : PySem.W.kitOne K (.ref D) (.type "list") = some false
  nt : PySem.W.kitOne K (.ref D) (.type "tuple") = some false
  nd : PySem.W.kitOne K (.ref D) (.type "dict") = some false
  nb : PySem.W.kitOne K (.ref D) (.type "bool") = some false
  ns : PySem.W.kitOne K (.ref D) (.type "str") = some false
  ni : PySem.W.kitOne K (.ref D) (.type "int") = some false
theorem EdK.ty {K : PySem.W.Frag} {D : Addr} (Z : EdK K D) {H : Hp} {a dx : Addr} {fs : List (Str × V)} (e : H a = some (.ins D dx fs)) : TyX K H (.ref a) (.ref D) := .base (TyOf.ins e Z.ic.cl Z.ic.ha Z.ic.hn Z.ic.htk Z.ic.hm)
def SameEd (D : Addr) : Addr → Addr → Hp → Prop := fun a b H => a = b ∧ EdEq D H a
theorem refl_refs {H : Hp} {ys : List V} (h : ∀ y ∈ ys, ∃ b, y = .ref b) : L2.Prs DSame ys ys H := by
  refine ⟨rfl, fun i x y h1 h2 => ?_⟩
  rw [h1] at h2
  cases h2
  obtain ⟨b, e⟩ := h x (List.mem_of_getElem? h1)
  exact ⟨b, e, e⟩
theorem refl_strs {H : Hp} {ys : List V} (h : ∀ y ∈ ys, ∃ b, y = .str b) : L2.Prs DFlat ys ys H := by
  refine ⟨rfl, fun i x y h1 h2 => ?_⟩
  rw [h1] at h2
  cases h2
  obtain ⟨b, rfl⟩ := h x (List.mem_of_getElem? h1)
  refine ⟨rfl, rfl, ?_⟩
  show (b == b) = true
  exact beq_self_eq_true b
section
variable {P : Program} {w : World} {K : PySem.W.Frag} {mg : Str → Option Value} {base : Heap} {C T I : Addr}
theorem ok_edeq {f D : Addr} {fd : FuncData} (F : Fun K "__eq__" "Edition.__eq__" sEdEq f fd) (Z : EdK K D) (ZE : EditC K D) (mD : mg "Edition" = some (.ref D)) (mis : mg "isinstance" = none) :
    FnOk P w K mg base CX0 2 f fd ["self", "other"] (spEq (SameEd D)) := by
  refine F.ok scEdEq (fun vs H Q E h => ?_) (fun cdv A outer s H vs Q E hr h => ?_)
  · obtain ⟨a, b, rfl, _⟩ := h
    rfl
  · obtain ⟨a, b, rfl, ⟨rfl, dx, l1, l2, g, ys, zs, e, e1, e2, hy, hz⟩, q⟩ := h
    refine ⟨_, pss_one (ps_ret (pe_and (pe_callB (r := fun xs H Q => ∃ a dx fs, xs = [.ref a, .ref D] ∧ H a = some (.ins D dx fs) ∧ Q (.bl true) H) (C8.call_isC Z.ic) (by rfl) mis boot_isi (pa_cons (pv 1) (pa_cons (pe_glob (v := .ref D) (by rfl) mD rfl) pa_nil)))
      (pe_and (pe_cmpR (op_eqG (rcG_list mon_same eqG_same) hr) (pe_fld (pv 0) (by rfl)) (pe_fld (pv 1) (by rfl)) (nomark _))
      (pe_one (pe_cmpR (op_eqG (rcG_list mon_flat eqG_flat) hr) (pe_fld (pv 0) (by rfl)) (pe_fld (pv 1) (by rfl)) (nomark _)))))), ?_⟩
    refine ⟨_, rfl, a, dx, _, rfl, e, true, rfl, iteT ?_⟩
    refine ⟨_, rfl, a, D, dx, _, _, rfl, e, ZE.c, ZE.n1, rfl, _, rfl, a, D, dx, _, _, rfl, e, ZE.c, ZE.n1, rfl, ?_⟩
    refine ⟨⟨l1, l1, ys, ys, rfl, rfl, e1, e1, refl_refs hy⟩, fun H1 x1 => ⟨true, rfl, iteT ?_⟩⟩
    refine ⟨_, rfl, a, D, dx, _, _, rfl, x1 _ _ e, ZE.c, ZE.n2, rfl, _, rfl, a, D, dx, _, _, rfl, x1 _ _ e, ZE.c, ZE.n2, rfl, ?_⟩
    exact ⟨⟨l2, l2, zs, zs, rfl, rfl, x1 _ _ e2, x1 _ _ e2, refl_strs hz⟩, fun H2 x2 => q _ (x1.trans x2)⟩
end
end K2

set_option Elab.async false
set_option linter.all false
set_option maxRecDepth 100000
set_option maxHeartbeats 8000000
/-! k03: the law's exact likeness, of equal data with editions in them -/
namespace K2
open PySem PySem.Spec PyProof.Rows L2 EL LW RZ ND
/-- equal data at a heap, at most so deep; an edition is like itself -/
def EqE (D : Addr) (H : Hp) : Nat → V → V → Prop
  | 0, v, w => (∃ n, Atom v n) ∧ v = w
  | k + 1, v, w => ((∃ n, Atom v n) ∧ v = w) ∨ (∃ (a b : Addr) (xs ys : List V), v = .ref a ∧ w = .ref b ∧ ((H a = some (.lst xs) ∧ H b = some (.lst ys)) ∨ (H a = some (.tup xs) ∧ H b = some (.tup ys))) ∧ Paired (EqE D H k) xs ys ∧ xs.length ≤ 1100) ∨
      (∃ (a : Addr) (kvs : List (Key × V)), 1 ≤ k ∧ v = .ref a ∧ w = .ref a ∧ H a = some (.dK kvs) ∧ kvs.length ≤ 1000 ∧ ∀ kv ∈ kvs, ((∃ i, kv.2 = .int i) ∨ (2 ≤ k ∧ ∃ e, kv.2 = .ref e ∧ EdEq D H e)) ∧ valV kvs kv.1 = some kv.2) ∨
      (∃ a : Addr, 1 ≤ k ∧ v = .ref a ∧ w = .ref a ∧ EdEq D H a)
theorem EqE.same {D : Addr} {H H' : Hp} (s : Same H H') : ∀ {k : Nat} {v w : V}, EqE D H k v w → EqE D H' k v w
  | 0, _, _, h => h
  | k + 1, _, _, h => by
    rcases h with h | ⟨a, b, xs, ys, e1, e2, h, p, z⟩ | ⟨a, kvs, h1, e1, e2, h2, h3, h4⟩ | ⟨a, h1, e1, e2, h⟩
    · exact .inl h
    · exact .inr (.inl ⟨a, b, xs, ys, e1, e2, h.imp (fun q => ⟨s _ _ q.1, s _ _ q.2⟩) (fun q => ⟨s _ _ q.1, s _ _ q.2⟩), Paired.mapP p fun _ _ q => EqE.same s q, z⟩)
    · exact .inr (.inr (.inl ⟨a, kvs, h1, e1, e2, s _ _ h2, h3, fun kv hk => ⟨(h4 kv hk).1.imp id fun ⟨z, e, h5, h6⟩ => ⟨z, e, h5, h6.same s⟩, (h4 kv hk).2⟩⟩))
    · exact .inr (.inr (.inr ⟨a, h1, e1, e2, h.same s⟩))
theorem atom_eqe {D : Addr} {H : Hp} {v : V} {n : String} (h : Atom v n) : ∀ k, EqE D H k v v
  | 0 => ⟨⟨n, h⟩, rfl⟩
  | _ + 1 => .inl ⟨⟨n, h⟩, rfl⟩
theorem eqe_cases {D : Addr} {H : Hp} : ∀ {n : Nat} {v u : V}, EqE D H n v u → ((∃ m, Atom v m) ∧ v = u) ∨
    (∃ (k : Nat) (a a2 : Addr) (xs ys : List V), n = k + 1 ∧ v = .ref a ∧ u = .ref a2 ∧ ((H a = some (.lst xs) ∧ H a2 = some (.lst ys)) ∨ (H a = some (.tup xs) ∧ H a2 = some (.tup ys))) ∧ Paired (EqE D H k) xs ys ∧ xs.length ≤ 1100) ∨
    (∃ (k : Nat) (a : Addr) (kvs : List (Key × V)), n = k + 1 ∧ 1 ≤ k ∧ v = .ref a ∧ u = .ref a ∧ H a = some (.dK kvs) ∧ kvs.length ≤ 1000 ∧ ∀ kv ∈ kvs, ((∃ i, kv.2 = .int i) ∨ (2 ≤ k ∧ ∃ e, kv.2 = .ref e ∧ EdEq D H e)) ∧ valV kvs kv.1 = some kv.2) ∨
    (∃ (k : Nat) (a : Addr), n = k + 1 ∧ 1 ≤ k ∧ v = .ref a ∧ u = .ref a ∧ EdEq D H a)
  | 0, _, _, h => .inl h
  | k + 1, _, _, h => by
    rcases h with h | ⟨a, b, xs, ys, h⟩ | ⟨a, kvs, h⟩ | ⟨a, h⟩
    · exact .inl h
    · exact .inr (.inl ⟨k, a, b, xs, ys, rfl, h⟩)
    · exact .inr (.inr (.inl ⟨k, a, kvs, rfl, h⟩))
    · exact .inr (.inr (.inr ⟨k, a, rfl, h⟩))
theorem keys_eqe {D : Addr} {H : Hp} : ∀ (kvs : List (Key × V)) (k : Nat), Paired (EqE D H k) (kvs.map fun kv => kV kv.1) (kvs.map fun kv => kV kv.1)
  | [], _ => .nil
  | (.inl i, _) :: r, k => .cons (atom_eqe (.int i) k) (keys_eqe r k)
  | (.inr x, _) :: r, k => .cons (atom_eqe (.str x) k) (keys_eqe r k)
theorem EdK.seq {K : PySem.W.Frag} {D : Addr} (Z : EdK K D) : PySem.W.kitAny K (.ref D) [.type "list", .type "tuple"] = some false := by
  refine kitAny_cons Z.nl (fun _ => ?_) (fun e => by cases e)
  refine kitAny_cons Z.nt (fun _ => ?_) (fun e => by cases e)
  exact kitAny_nil
/-- == of what has no parts, and of an edition with itself -/
def rEqO (D : Addr) (n : Nat) : R2 := fun x y H Q => rEq x y H Q ∨ (2 ≤ n ∧ rEqG (DIns D (SameEd D)) x y H Q)
theorem op_eqO {X : Cx} {D : Addr} {n : Nat} (h : RcG X 2 (DIns D (SameEd D))) (hr : Room n X.A) : OpR X (compareOp .Eq) (rEqO D n) := by
  intro pins s σ H x y v u Q I rx ry hq
  rcases hq with hq | ⟨hn, hq⟩
  · exact op_eq pins s σ H x y v u Q I rx ry hq
  · exact op_eqG h (hr.mono hn) pins s σ H x y v u Q I rx ry hq
section
variable {P : Program} {w : World} {K : PySem.W.Frag} {mg : Str → Option Value} {base : Heap} {C T I : Addr}
def spXE (D : Addr) : Nat → Sp
  | 0 => fun _ _ _ _ => False
  | k + 1 => fun vs H Q _ => ∃ v u : V, vs = [v, u] ∧ EqE D H k v u ∧ ∀ H', Same H H' → Q (.bl true) H'
theorem ok_exactE {f fE D : Addr} {fd dE : FuncData} (F : Fun K "_law_exact" "_law_exact" sExact f fd) (b : Binds K fd ["_law_one", "_law_other"] []) (g : mg "_law_exact" = some (.ref f)) (N : Nms mg) (Z : EdK K D) (GE : FnOk P w K mg base CX0 2 fE dE ["self", "other"] (spEq (SameEd D))) (hs : PySem.W.findIn K (.ref D) "__eq__" = some (some (.ref fE))) (hf : PySem.W.isFn K (.ref fE) = true) (hb : Binds K dE ["self", "other"] []) : ∀ n, FnOk P w K mg base CX0 n f fd ["_law_one", "_law_other"] (spXE D n)
  | 0 => ⟨fun _ _ _ _ h => h.elim, fun _ _ _ _ _ _ _ _ _ _ _ _ _ h => h.elim⟩
  | n + 1 => by
    have G := ok_exactE F b g N Z GE hs hf hb n
    have kf := F.kp
    refine F.ok scExact (fun vs H Q E h => ?_) (fun cdv A outer s H vs Q E hr h => ?_)
    · obtain ⟨v, u, rfl, _⟩ := h
      rfl
    · obtain ⟨v, u, rfl, hv, q⟩ := h
      have nd := scExact.nd
      have hu := hu_of hr
      refine ⟨_, pss_cons (ps_if (pt_val (pe_callB call_isiT (by rfl) N.isi boot_isi (pa_cons (pv 0) (pa_cons (pe_tup (pa_cons (pe_bltn (v := .ty "list") (by rfl) N.list boot_list rfl) (pa_cons (pe_bltn (v := .ty "tuple") (by rfl) N.tuple boot_tuple rfl) pa_nil))) pa_nil))))
          (pss_cons (ps_set (i := 2) nd rfl (.inl rfl) (pe_and (pe_cmpR op_eq (pe_callB call_isi (by rfl) N.isi boot_isi (pa_cons (pv 1) (pa_cons (pe_bltn (v := .ty "list") (by rfl) N.list boot_list rfl) pa_nil))) (pe_callB call_isi (by rfl) N.isi boot_isi (pa_cons (pv 0) (pa_cons (pe_bltn (v := .ty "list") (by rfl) N.list boot_list rfl) pa_nil))) (nomark _))
            (pe_one (pe_cmpR op_eq (pe_callB call_isi (by rfl) N.isi boot_isi (pa_cons (pv 1) (pa_cons (pe_bltn (v := .ty "tuple") (by rfl) N.tuple boot_tuple rfl) pa_nil))) (pe_callB call_isi (by rfl) N.isi boot_isi (pa_cons (pv 0) (pa_cons (pe_bltn (v := .ty "tuple") (by rfl) N.tuple boot_tuple rfl) pa_nil))) (nomark _)))))
          (pss_one (ps_ret (pe_and (pv 2) (pe_and (pe_cmpR op_eq (pe_callB call_len_seq (by rfl) N.len PySem.boot_len (pa_cons (pv 0) pa_nil)) (pe_callB call_len_seq (by rfl) N.len PySem.boot_len (pa_cons (pv 1) pa_nil)) (nomark _))
            (pe_one (pe_callB (cr_all rfl) (by rfl) N.all boot_all (pa_cons (pe_lc (own := [("_law_a", 3), ("_law_b", 4)]) (g := gTup K 2 (gCons (gName 3) (gCons (gName 4) gNil))) (tt := tYes) rfl nd (pi_zipA (by rfl) N.zip (pa_cons (pv 0) (pa_cons (pv 1) pa_nil)))
              (blkOk_by (own := [("_law_a", 3), ("_law_b", 4)]) (N := nX) (sc := defScope sExact) (by decide +kernel)) (fun _ _ _ _ _ => pg_tup (by rfl) (pgs_cons (pg_name (i := 3) nd rfl (Or.inl rfl)) (pgs_cons (pg_name (i := 4) nd rfl (Or.inl rfl)) pgs_nil))) (fun _ _ _ _ _ => pts_nil)
              (fun _ _ _ _ _ => pe_call G hr (by rfl) g kf b .nil pass0 (pa_cons (pv 3) (pa_cons (pv 4) pa_nil)))) pa_nil)))))))) pss_nil)
        (pss_cons (ps_if (pt_val (pe_callB call_isi (by rfl) N.isi boot_isi (pa_cons (pv 0) (pa_cons (pe_bltn (v := .ty "dict") (by rfl) N.dict boot_dict rfl) pa_nil))))
          (pss_cons (ps_set (i := 2) nd rfl (.inl rfl) (pe_and (pe_callB call_isi (by rfl) N.isi boot_isi (pa_cons (pv 1) (pa_cons (pe_bltn (v := .ty "dict") (by rfl) N.dict boot_dict rfl) pa_nil)))
            (pe_one (pe_call G hr (by rfl) g kf b .nil pass0 (pa_cons (pe_callTy (call_list_dK rfl) (by rfl) N.list boot_list (pa_cons (pv 0) pa_nil)) (pa_cons (pe_callTy (call_list_dK rfl) (by rfl) N.list boot_list (pa_cons (pv 1) pa_nil)) pa_nil))))))
          (pss_one (ps_ret (pe_and (pv 2) (pe_one (pe_callB (cr_all rfl) (by rfl) N.all boot_all (pa_cons (pe_lock (pe_lc (own := [("_law_key", 5)]) (g := gName 5) (tt := tYes) rfl nd (pi_keys (pv 0))
              (blkOk_by (own := [("_law_key", 5)]) (N := nX) (sc := defScope sExact) (by decide +kernel)) (fun _ _ _ _ _ => pg_name (i := 5) nd rfl (Or.inl rfl)) (fun _ _ _ _ _ => pts_nil)
              (fun _ _ _ _ _ => pe_call G hr (by rfl) g kf b .nil pass0 (pa_cons (pe_dget hu (pv 0) (pv 5) (fun _ _ => rfl)) (pa_cons (pe_dget hu (pv 1) (pv 5) (fun _ _ => rfl)) pa_nil))))) pa_nil))))))) pss_nil)
        (pss_one (ps_ret (pe_and (pe_cmpR op_eq (pe_callB call_isi (by rfl) N.isi boot_isi (pa_cons (pv 0) (pa_cons (pe_bltn (v := .ty "bool") (by rfl) N.bool boot_bool rfl) pa_nil))) (pe_callB call_isi (by rfl) N.isi boot_isi (pa_cons (pv 1) (pa_cons (pe_bltn (v := .ty "bool") (by rfl) N.bool boot_bool rfl) pa_nil))) (nomark _))
          (pe_one (pe_cmpR (op_eqO (rcG_ins (R := SameEd D) GE hs hf hb pass0) hr) (pv 0) (pv 1) (nomark _))))))), ?_⟩
      rcases eqe_cases hv with ⟨⟨m, hm⟩, rfl⟩ | ⟨k, a, a2, xs, ys, rfl, rfl, rfl, ⟨ha, hb⟩ | ⟨ha, hb⟩, hp, hz⟩ | ⟨k, a, kvs, rfl, hk, rfl, rfl, ha, hz, hkv⟩ | ⟨k, a, rfl, hk, rfl, rfl, hed⟩
      · -- no parts
        obtain ⟨bb, kb⟩ := atom_bool (K := K) hm
        refine ⟨v, rfl, sz 2 (by decide), fun tp ntp => ?_⟩
        have s1 := same_upd (o := .tup [.ty "list", .ty "tuple"]) ntp
        refine ⟨_, tp, [.ty "list", .ty "tuple"], _, _, false, rfl, upd_same, .cons (ClsV.ty _) (.cons (ClsV.ty _) .nil), hm.ty, atom_seq hm, false, rfl, iteF ?_⟩
        refine ⟨v, rfl, _, _, _, _, false, rfl, ClsV.ty _, hm.ty, atom_dict hm, false, rfl, iteF ?_⟩
        refine ⟨v, rfl, _, _, _, _, bb, rfl, ClsV.ty _, hm.ty, kb, v, rfl, _, _, _, _, bb, rfl, ClsV.ty _, hm.ty, kb, rfl, true, ?_, iteT ⟨v, rfl, v, rfl, .inl ⟨atom_scal hm, ?_⟩⟩⟩
        · rw [decide_eq_true rfl]
        · rw [decide_eq_true rfl]
          exact q _ s1
      · -- lists
        have kab : PySem.W.kitAny K (.type "list") [.type "list", .type "tuple"] = some true := kit_seq (b1 := true) (b2 := false) (by decide +kernel) (by decide +kernel) rfl
        have tyA : ∀ H', Same H H' → TyX K H' (.ref a) (.type "list") := fun H' s' => .base (.lst (s' _ _ ha))
        have tyB : ∀ H', Same H H' → TyX K H' (.ref a2) (.type "list") := fun H' s' => .base (.lst (s' _ _ hb))
        refine ⟨.ref a, rfl, sz 2 (by decide), fun tp ntp => ?_⟩
        have s1 := same_upd (o := .tup [.ty "list", .ty "tuple"]) ntp
        refine ⟨_, tp, [.ty "list", .ty "tuple"], _, _, true, rfl, upd_same, .cons (ClsV.ty _) (.cons (ClsV.ty _) .nil), tyA _ s1, kab, true, rfl, iteT ?_⟩
        refine ⟨.ref a2, rfl, _, _, _, _, true, rfl, ClsV.ty _, tyB _ s1, kit_ty (by decide +kernel), .ref a, rfl, _, _, _, _, true, rfl, ClsV.ty _, tyA _ s1, kit_ty (by decide +kernel), rfl, true, rfl, iteT ?_⟩
        refine ⟨.ref a2, rfl, _, _, _, _, false, rfl, ClsV.ty _, tyB _ s1, kit_ty (by decide +kernel), .ref a, rfl, _, _, _, _, false, rfl, ClsV.ty _, tyA _ s1, kit_ty (by decide +kernel), rfl, ?_⟩
        refine ⟨.bl true, rfl, true, rfl, iteT ⟨.ref a, rfl, a, xs, rfl, .inl (SqL.of (s1 _ _ ha)), .ref a2, rfl, a2, ys, rfl, .inl (SqL.of (s1 _ _ hb)), rfl, true, ?_, iteT ?_⟩⟩
        · show V.bl (decide (V.int (xs.length : Int) = V.int (ys.length : Int))) = V.bl true
          rw [paired_len hp, decide_eq_true rfl]
        refine ⟨.ref a, rfl, .ref a2, rfl, a, a2, xs, ys, rfl, .inl ⟨SqL.of (s1 _ _ ha), SqL.of (s1 _ _ hb), fun D nD => ?_⟩⟩
        refine lc_it (walk_zip (n := xs.length) (by rw [paired_len hp]; exact (Nat.min_self _).symm)) (fun i H' => Same H H' ∧ H' D = some (.lst ((List.replicate i true).map V.bl))) ⟨s1.trans (same_upd nD), upd_same⟩ (fun i H' _ h => ⟨SqL.of (h.1 _ _ ha), SqL.of (h.1 _ _ hb)⟩) ?_ ?_
        · rintro i x H2 H3 hi ⟨s2, eD⟩ ⟨t, x1, y1, rfl, nt, rfl, hx, hy⟩
          have s3 := same_upd (o := .tup [x1, y1]) nt
          refine ⟨t, _, rfl, SqT.of upd_same, rfl, _, _, rfl, _, _, rfl, rfl, rfl, lc_turn ?_⟩
          refine ⟨x1, rfl, y1, rfl, x1, y1, rfl, (paired_at hp hx hy).same (s2.trans s3), fun H4 s4 => ⟨(List.replicate i true).map V.bl, (s3.trans s4) _ _ eD, ?_, fun b' o hb' => ?_, ?_⟩⟩
          · rw [List.length_map, List.length_replicate]
            exact Nat.lt_of_lt_of_le (by omega : i < 100000) (sz _ (Nat.le_refl _))
          · have nD' : b' ≠ D := ne_of_none (s1 _ _ hb') nD
            rw [upd_ne nD']
            exact (s3.trans s4) _ _ (s2 _ _ hb')
          · rw [upd_same, List.replicate_succ', List.map_append]
            rfl
        · rintro H2 ⟨s2, eD⟩
          refine ⟨D, List.replicate xs.length true, rfl, SqL.of eD, ?_⟩
          rw [show (List.replicate xs.length true).all id = true from by rw [List.all_replicate]; simp]
          exact q H2 s2
      · -- tuples
        have kab : PySem.W.kitAny K (.type "tuple") [.type "list", .type "tuple"] = some true := kit_seq (b1 := false) (b2 := true) (by decide +kernel) (by decide +kernel) rfl
        have tyA : ∀ H', Same H H' → TyX K H' (.ref a) (.type "tuple") := fun H' s' => .base (.tup (s' _ _ ha))
        have tyB : ∀ H', Same H H' → TyX K H' (.ref a2) (.type "tuple") := fun H' s' => .base (.tup (s' _ _ hb))
        refine ⟨.ref a, rfl, sz 2 (by decide), fun tp ntp => ?_⟩
        have s1 := same_upd (o := .tup [.ty "list", .ty "tuple"]) ntp
        refine ⟨_, tp, [.ty "list", .ty "tuple"], _, _, true, rfl, upd_same, .cons (ClsV.ty _) (.cons (ClsV.ty _) .nil), tyA _ s1, kab, true, rfl, iteT ?_⟩
        refine ⟨.ref a2, rfl, _, _, _, _, false, rfl, ClsV.ty _, tyB _ s1, kit_ty (by decide +kernel), .ref a, rfl, _, _, _, _, false, rfl, ClsV.ty _, tyA _ s1, kit_ty (by decide +kernel), rfl, true, rfl, iteT ?_⟩
        refine ⟨.ref a2, rfl, _, _, _, _, true, rfl, ClsV.ty _, tyB _ s1, kit_ty (by decide +kernel), .ref a, rfl, _, _, _, _, true, rfl, ClsV.ty _, tyA _ s1, kit_ty (by decide +kernel), rfl, ?_⟩
        refine ⟨.bl true, rfl, true, rfl, iteT ⟨.ref a, rfl, a, xs, rfl, .inr (SqT.of (s1 _ _ ha)), .ref a2, rfl, a2, ys, rfl, .inr (SqT.of (s1 _ _ hb)), rfl, true, ?_, iteT ?_⟩⟩
        · show V.bl (decide (V.int (xs.length : Int) = V.int (ys.length : Int))) = V.bl true
          rw [paired_len hp, decide_eq_true rfl]
        refine ⟨.ref a, rfl, .ref a2, rfl, a, a2, xs, ys, rfl, .inr ⟨SqT.of (s1 _ _ ha), SqT.of (s1 _ _ hb), fun D nD => ?_⟩⟩
        refine lc_it (walk_zipT (n := xs.length) (by rw [paired_len hp]; exact (Nat.min_self _).symm)) (fun i H' => Same H H' ∧ H' D = some (.lst ((List.replicate i true).map V.bl))) ⟨s1.trans (same_upd nD), upd_same⟩ (fun i H' _ h => ⟨SqT.of (h.1 _ _ ha), SqT.of (h.1 _ _ hb)⟩) ?_ ?_
        · rintro i x H2 H3 hi ⟨s2, eD⟩ ⟨t, x1, y1, rfl, nt, rfl, hx, hy⟩
          have s3 := same_upd (o := .tup [x1, y1]) nt
          refine ⟨t, _, rfl, SqT.of upd_same, rfl, _, _, rfl, _, _, rfl, rfl, rfl, lc_turn ?_⟩
          refine ⟨x1, rfl, y1, rfl, x1, y1, rfl, (paired_at hp hx hy).same (s2.trans s3), fun H4 s4 => ⟨(List.replicate i true).map V.bl, (s3.trans s4) _ _ eD, ?_, fun b' o hb' => ?_, ?_⟩⟩
          · rw [List.length_map, List.length_replicate]
            exact Nat.lt_of_lt_of_le (by omega : i < 100000) (sz _ (Nat.le_refl _))
          · have nD' : b' ≠ D := ne_of_none (s1 _ _ hb') nD
            rw [upd_ne nD']
            exact (s3.trans s4) _ _ (s2 _ _ hb')
          · rw [upd_same, List.replicate_succ', List.map_append]
            rfl
        · rintro H2 ⟨s2, eD⟩
          refine ⟨D, List.replicate xs.length true, rfl, SqL.of eD, ?_⟩
          rw [show (List.replicate xs.length true).all id = true from by rw [List.all_replicate]; simp]
          exact q H2 s2
      · -- a dict
        have tyA : ∀ H', Same H H' → TyX K H' (.ref a) (.type "dict") := fun H' s' => .base (.dK (s' _ _ ha))
        refine ⟨.ref a, rfl, sz 2 (by decide), fun tp ntp => ?_⟩
        have s1 := same_upd (o := .tup [.ty "list", .ty "tuple"]) ntp
        refine ⟨_, tp, [.ty "list", .ty "tuple"], _, _, false, rfl, upd_same, .cons (ClsV.ty _) (.cons (ClsV.ty _) .nil), tyA _ s1, kit_seq (b1 := false) (b2 := false) (by decide +kernel) (by decide +kernel) rfl, false, rfl, iteF ?_⟩
        refine ⟨.ref a, rfl, _, _, _, _, true, rfl, ClsV.ty _, tyA _ s1, kit_ty (by decide +kernel), true, rfl, iteT ?_⟩
        refine ⟨.ref a, rfl, _, _, _, _, true, rfl, ClsV.ty _, tyA _ s1, kit_ty (by decide +kernel), true, rfl, iteT ?_⟩
        refine ⟨.ref a, rfl, a, kvs, rfl, s1 _ _ ha, fun q1 nq1 => ?_⟩
        have s2 := s1.trans (same_upd (o := .lst (kvs.map fun kv => kV kv.1)) nq1)
        refine ⟨.ref a, rfl, a, kvs, rfl, s2 _ _ ha, fun q2 nq2 => ?_⟩
        have s3 := s2.trans (same_upd (o := .lst (kvs.map fun kv => kV kv.1)) nq2)
        have n12 : q1 ≠ q2 := fun e => by rw [← e, upd_same] at nq2; cases nq2
        refine ⟨.ref q1, .ref q2, rfl, ?_, fun H3 s4 => ?_⟩
        · match k, hk with
          | k + 1, _ => exact .inr (.inl ⟨q1, q2, _, _, rfl, rfl, .inl ⟨by rw [upd_ne n12]; exact upd_same, upd_same⟩, keys_eqe kvs k, by rw [List.length_map]; omega⟩)
        have s5 := s3.trans s4
        refine ⟨.bl true, rfl, true, rfl, iteT ⟨a, .dK kvs, s5 _ _ ha, trivial, fun od => ?_⟩⟩
        refine ⟨.ref a, rfl, a, od, rfl, .inl ⟨kvs, upd_same, fun D nD => ?_⟩⟩
        have aD : a ≠ D := fun e => by rw [← e, upd_same] at nD; cases nD
        refine lc_it walk_keys (fun i H' => Same (upd H3 a (.frz od (.dK kvs))) H' ∧ H' D = some (.lst ((List.replicate i true).map V.bl))) ⟨same_upd nD, upd_same⟩ (fun i H' _ h => h.1 _ _ upd_same) ?_ ?_
        · rintro i x H4 H5 hi ⟨s6, eD⟩ ⟨rfl, kx, vx, hx, rfl⟩
          obtain ⟨hvv, hval⟩ := hkv _ (List.mem_of_getElem? hx)
          have ef := s6 _ _ upd_same
          refine ⟨rfl, lc_turn ?_⟩
          refine ⟨.ref a, rfl, kV kx, rfl, a, vx, rfl, .inl ⟨kvs, kx, .inr ⟨od, ef⟩, rfl, hval.symm⟩, .ref a, rfl, kV kx, rfl, a, vx, rfl, .inl ⟨kvs, kx, .inr ⟨od, ef⟩, rfl, hval.symm⟩, vx, vx, rfl, ?_, fun H6 s7 => ⟨(List.replicate i true).map V.bl, s7 _ _ eD, ?_, fun b' o hb' => ?_, ?_⟩⟩
          · rcases hvv with ⟨iv, hiv⟩ | ⟨h2, e, hiv, hed⟩
            · have hiv' : vx = .int iv := hiv
              rw [hiv']
              exact atom_eqe (.int iv) _
            · have hiv' : vx = .ref e := hiv
              rw [hiv']
              match k, h2 with
              | k + 1, h2 => exact .inr (.inr (.inr ⟨e, by omega, rfl, rfl, EdEq.same s6 (EdEq.keep (s5 _ _ ha) ⟨fun _ _ z => (by cases z), fun _ z => (by cases z)⟩ keep_upd (hed.same s5))⟩))
          · rw [List.length_map, List.length_replicate]
            exact Nat.lt_of_lt_of_le (by omega : i < 100000) (sz _ (Nat.le_refl _))
          · rw [upd_ne (ne_of_none hb' nD)]
            exact s7 _ _ (s6 _ _ hb')
          · rw [upd_same, List.replicate_succ', List.map_append]
            rfl
        · rintro H4 ⟨s6, eD⟩
          refine ⟨s6 _ _ upd_same, D, List.replicate kvs.length true, rfl, SqL.of (by rw [upd_ne aD.symm]; exact eD), ?_⟩
          rw [show (List.replicate kvs.length true).all id = true from by rw [List.all_replicate]; simp]
          refine q _ fun b' o hb' => ?_
          by_cases e : b' = a
          · subst e
            rw [upd_same, ← ha]
            exact hb'
          · rw [upd_ne e]
            refine s6 _ _ ?_
            rw [upd_ne e]
            exact s5 _ _ hb'
      · -- an edition
        obtain ⟨dx, l1, l2, g2, ys, zs, e, _⟩ := id hed
        have tyA : ∀ H', Same H H' → TyX K H' (.ref a) (.ref D) := fun H' s' => Z.ty (s' _ _ e)
        refine ⟨.ref a, rfl, sz 2 (by decide), fun tp ntp => ?_⟩
        have s1 := same_upd (o := .tup [.ty "list", .ty "tuple"]) ntp
        refine ⟨_, tp, [.ty "list", .ty "tuple"], _, _, false, rfl, upd_same, .cons (ClsV.ty _) (.cons (ClsV.ty _) .nil), tyA _ s1, Z.seq, false, rfl, iteF ?_⟩
        refine ⟨.ref a, rfl, _, _, _, _, false, rfl, ClsV.ty _, tyA _ s1, Z.nd, false, rfl, iteF ?_⟩
        refine ⟨.ref a, rfl, _, _, _, _, false, rfl, ClsV.ty _, tyA _ s1, Z.nb, .ref a, rfl, _, _, _, _, false, rfl, ClsV.ty _, tyA _ s1, Z.nb, rfl, true, rfl, iteT ?_⟩
        refine ⟨.ref a, rfl, .ref a, rfl, .inr ⟨by omega, ⟨a, a, dx, dx, _, _, rfl, rfl, s1 _ _ e, s1 _ _ e, rfl, hed.same s1⟩, fun H2 s2 => q _ (s1.trans s2)⟩⟩
end
end K2

set_option Elab.async false
set_option linter.all false
set_option maxRecDepth 100000
set_option maxHeartbeats 8000000
/-! k03: several except clauses, each with the same name -/
namespace EL
open PySem PySem.Spec PyProof.Rows L2
abbrev Suit := Addr → Value → Option Addr → TS
/-- the name goes at the end of a suite -/
def offI (i : Nat) (D : Ends) : Ends := { nx := fun σ H => D.nx (σ.set i none) H, rt := D.rt, bk := fun σ H => D.bk (σ.set i none) H, ct := fun σ H => D.ct (σ.set i none) H }
/-- what clauses with one name (slot i) ask, one behind the other -/
def wNam (K : PySem.W.Frag) (i : Nat) (W0 : WX) (D : Ends) : List (Value × Suit) → WX
  | [] => W0
  | q :: r => fun cls d σ H => ∃ b, PySem.W.exmOne K cls q.1 = some b ∧ (b = true → ∀ a, H a = none → q.2 a cls d (offI i D) (σ.set i (some (.ref a))) H) ∧ (b = false → wNam K i W0 D r cls d σ H)
inductive Clauses (X : Cx) (n : Str) : List ExceptHandler → List (Value × Suit) → Prop
  | nil : Clauses X n [] []
  | cons {x : Str} {q : Value × Suit} {b₀ : Stmt} {suite : List Stmt} {p1 p2 : Pos} {hds : List ExceptHandler} {l : List (Value × Suit)} (hc : Names X x q.1)
      (hsu : ∀ (a : Addr) (o : Obj) (cls : Value) (d : Option Addr) (pn : List (Addr × Obj)), Zc cls d o → (∃ vs, o.data = .fields vs) → PSs (X.suite a ((a, o) :: pn)) (b₀ :: suite) (q.2 a cls d)) (r : Clauses X n hds l) :
      Clauses X n (.ExceptHandler (some (.Name x p1)) (some n) (b₀ :: suite) p2 :: hds) (q :: l)
section
variable {X : Cx} {n : Str} {i : Nat} {body : List Stmt} {h₀ : ExceptHandler} {hds : List ExceptHandler} {l : List (Value × Suit)} {pos : Pos} {tb : WX → TS} {W0 : WX}
theorem ps_try_named (hs : X.stack = X.env :: X.outer) (hf : X.env.frame = some X.env.locals) (hN : X.N.Nodup) (hi : X.N[i]? = some n) (hln : X.env.kindOf n = some .local) (tk : Takes X W0)
    (hb : ∀ (W : WX) (pn : List (Addr × Obj)) (xe : Value → Shared → Prop), Takes (X.tr pn xe) W → PassesOwn (model X.prog X.w) X.A X.env xe → PSs (X.tr pn xe) body (tb W))
    (hh : Clauses X n (h₀ :: hds) l) : PS X (.Try body (h₀ :: hds) [] [] pos) (fun D σ H => tb (wNam X.K i W0 D l) D σ H) := by
  refine ⟨fun pins s σ H D I h => ?_⟩
  have ok := I.ok
  have fr0 : X.A.frames = some (X.env :: X.outer) := by rw [ok.frames, hs]
  have loc0 : Loc X.env.scope n := .inl hln
  refine wpAny_Try_except (wpAny_mono ((hb (wNam X.K i W0 D l) (X.pn ++ pins) (fun e s₁ => wpAny (model X.prog X.w) X.A (noteFrame e X.env) (fun _ s₂ => wpAny (model X.prog X.w) X.A (setFlight e none)
    (fun _ s₃ => wpAny (model X.prog X.w) X.A (handleBy e X.env (h₀ :: hds)) (SP X pins D) X.xe s₃) X.xe s₂) X.xe s₁) (fun u s' caught => ?_) PassesOwn.looking).run [] s σ H D (I.toTry _) h) (fun f s1 done => ?_) (fun e s1 he => he))
  · -- an exception
    obtain ⟨a, B, sI, pins', σ', H', cls, d, rfl, J', nb, up, sky, na, os, ag, w⟩ := caught
    have J : Inv X pins σ' H' sI := J'.ofTry ok
    rw [← hs] at fr0
    refine Sky.land Zc.steady (hs ▸ fr0) hf (by rw [← hs]; exact sky) fun g3 fl3 up3 => ?_
    have J3 : Inv X pins σ' H' { s' with heap := g3 } := J.landed nb fl3.1 (up.trans up3) os ag
    obtain ⟨o3, vs3, e3, z3, d3⟩ := fl3.there
    have off : a ∉ frs (X.env :: X.outer) := fun hm => by
      obtain ⟨_, o', e', hnf⟩ := fl3.2.2.1.mem hm
      rw [e3] at e'
      cases e'
      exact hnf _ d3
    have nL : a ≠ X.env.locals := fun z => off (List.mem_filterMap.mpr ⟨X.env, List.mem_cons_self, by rw [hf, z]⟩)
    have nF : a ∉ X.fs := fun hm => by
      obtain ⟨e, he, q⟩ := List.mem_filterMap.mp hm
      exact off (List.mem_filterMap.mpr ⟨e, List.mem_cons_of_mem _ he, q⟩)
    have S3 := J3.suite e3 d3 na nL nF
    have each : ∀ {hds' : List ExceptHandler} {l' : List (Value × Suit)}, Clauses X n hds' l' → wNam X.K i W0 D l' cls d σ' H' → wpAny (model X.prog X.w) X.A (handleBy (.ref a) X.env hds') (SP X pins D) X.xe { s' with heap := g3 } := by
      intro hds' l' hk
      induction hk with
      | nil =>
        intro w
        obtain ⟨k1, k2, k3, oe, vs, T, oT, ts', he, hz, hd, h1, hr⟩ := id fl3
        refine wpAny_handleBy_nil ?_
        unfold PySem.passOn
        refine wpAny_bind (wpAny_field he hd h1 ?_)
        rw [if_neg (show ¬ ((Value.ref T == Value.none) = true) from by simp)]
        have out : wpAny (model X.prog X.w) X.A (setFlight (.ref a) X.env.frame) (fun _ s4 => wpAny (model X.prog X.w) X.A (throw (.ref a) : Sem Flow) (SP X pins D) X.xe s4) X.xe { s' with heap := g3 } := by
          rw [hf]
          exact HandSPX.setFlight_upZ fl3 fun g4 hh4 up4 => wpAny_throw (tk _ _ ⟨a, B, sI, pins, σ', H', cls, d, rfl, J, nb, (up.trans up3).trans up4, .inr (.inr (by rw [hs]; exact hh4)), na, os, ag, w⟩)
        first
          | exact wpAny_bind (wpAny_pure (wpAny_bind out))
          | exact wpAny_bind out
      | @cons x q b₀ suite p1 p2 hds2 l2 hc hsu r ih =>
        rintro ⟨b, hb1, hyes, hno⟩
        refine wpAny_handleBy_cons (codeAny_handlers_test ?_) (by intro q; cases q)
        have LT : PySem.W.Looks (model X.prog X.w) g3 (typeOf (.ref a)) cls := fun A Q E s k q => wpAny_typeOf_ref (k _ _ e3) (by rw [z3.1]; exact q)
        have LM := PySem.W.exm_one (M := model X.prog X.w) J3.kIn LT hb1
        have test : ∀ {Q : Value → Shared → Prop} {E : Value → Shared → Prop}, Q q.1 { s' with heap := g3 } → wpAny (model X.prog X.w) (X.A.mark (some (.ref a))) (eval (.Name x p1) X.env) Q E { s' with heap := g3 } := fun {Q E} hq => by
          rcases hc with ⟨hg, hdbg, hm | ⟨hm, hv, hnn⟩⟩
          · exact ld_glob (X := X.suite a ((a, o3) :: (X.pn ++ pins))) S3 hg hm hq hdbg
          · exact ld_blt (X := X.suite a ((a, o3) :: (X.pn ++ pins))) S3 hg hm hv hq hnn hdbg
        refine test (LM.here ?_)
        cases b with
        | false => exact ih (hno rfl)
        | true =>
          refine codeAny_handlers_suite_as (HandSPX.lands_againZ fl3 fun g4 fl4 up4 => ?_)
          have J4 : Inv X pins σ' H' { s' with heap := g4 } := J.landed nb fl4.1 ((up.trans up3).trans up4) os ag
          obtain ⟨o4, vs4, e4, z4, d4⟩ := fl4.there
          refine store_ok (X := X.suite a ((a, o4) :: (X.pn ++ pins))) (v := .ref a) (J4.suite e4 d4 na nL nF) hN hi loc0 rfl (fun s5 S5 => ?_) (.inr hln)
          refine wpAny_mono ((hsu a o4 cls d (X.pn ++ pins) z4 ⟨_, d4⟩).run [] s5 _ H' _ S5 (hyes rfl a na)) (fun f s6 hsp => ?_) (fun _ _ z => False.elim z)
          have gone : ∀ {σ6 : L2.St} {H6 : Hp} {Q : Shared → Prop}, Inv (X.suite a ((a, o4) :: (X.pn ++ pins))) [] σ6 H6 s6 → (∀ s7, Inv X pins (σ6.set i none) H6 s7 → Q s7) →
              wpAny (model X.prog X.w) X.A (do bindName X.env n .none; unbindBehindTheSuite X.env n p2) (fun _ s7 => Q s7) X.xe s6 := fun {σ6 H6 Q} S6 hq => gone_ok (S6.unsuite ok) hN hi hln hq
          cases f with
          | ret u => obtain ⟨v6, σ6, H6, S6, r6, q6⟩ := hsp; exact gone S6 fun s7 J7 => ⟨_, _, _, J7, r6, q6⟩
          | next => obtain ⟨σ6, H6, S6, q6⟩ := hsp; exact gone S6 fun s7 J7 => ⟨_, _, J7, q6⟩
          | brk => obtain ⟨σ6, H6, S6, q6⟩ := hsp; exact gone S6 fun s7 J7 => ⟨_, _, J7, q6⟩
          | cont => obtain ⟨σ6, H6, S6, q6⟩ := hsp; exact gone S6 fun s7 J7 => ⟨_, _, J7, q6⟩
    exact each hh w
  · cases f with
    | ret u => obtain ⟨v, σ', H', J', r, q⟩ := done; exact ⟨v, σ', H', J'.ofTry ok, r, q⟩
    | next => obtain ⟨σ', H', J', q⟩ := done; exact wpAny_execs_nil ⟨σ', H', J'.ofTry ok, q⟩
    | brk => obtain ⟨σ', H', J', q⟩ := done; exact ⟨σ', H', J'.ofTry ok, q⟩
    | cont => obtain ⟨σ', H', J', q⟩ := done; exact ⟨σ', H', J'.ofTry ok, q⟩
end
end EL

set_option Elab.async false
set_option linter.all false
set_option maxRecDepth 100000
set_option maxHeartbeats 8000000
/-! k03: isinstance of the error that a suite holds; which clause takes which error -/
namespace EL
open PySem PySem.Spec PyProof.Rows L2
open PySem.EV (ErrC ErrI)
section
variable {K : PySem.W.Frag} {C T : Addr} {bm : List Value}
theorem CatC.exm (Z : CatC K C bm) {C' : Addr} {bm' : List Value} (Z' : CatC K C' bm') : PySem.W.exmOne K (.ref C) (.ref C') = Option.some ((Value.ref C :: bm).contains (.ref C')) := by
  have hb : PySem.W.subIn K (.ref C') (.type "BaseException") = Option.some true := by
    rw [Z'.sub, List.contains_cons, HandSPX.refsVE_contains "BaseException" _ Z'.bm]
    rfl
  unfold PySem.W.exmOne
  rw [if_pos (show (PySem.W.subIn K (.ref C') (.type "BaseException") == Option.some true) = true from by rw [hb]; rfl)]
  show (if ((PySem.W.clsIn K C').isSome && PySem.W.typeIn K (.ref C') == Option.some (.type "type")) = true then PySem.W.subIn K (.ref C) (.ref C') else none) = _
  rw [Z'.some, Z'.ty, if_pos (by rfl)]
  exact Z.sub _
theorem tail_none (C' : Addr) : HandSPX.veTail.contains (.ref C') = false := by rfl
theorem err_in (C T C' : Addr) : (Value.ref C :: Value.ref T :: HandSPX.veTail).contains (.ref C') = (decide (C' = C) || decide (C' = T)) := by
  rw [List.contains_cons, List.contains_cons, tail_none, Bool.or_false]
  congr 1 <;> · rw [Bool.eq_iff_iff, beq_iff_eq, decide_eq_true_iff]; exact ⟨fun h => Value.ref.inj h, fun h => by rw [h]⟩
theorem exm_err (Z : ErrC K C T) {C' : Addr} (Z' : ErrC K C' T) (hT : C' ≠ T) : PySem.W.exmOne K (.ref C) (.ref C') = some (decide (C' = C)) := by
  rw [(EL.ErrC.cat Z).exm (EL.ErrC.cat Z'), err_in, decide_eq_false hT, Bool.or_false]
theorem exm_base (Z : ErrC K C T) (Z' : CatC K T HandSPX.veTail) : PySem.W.exmOne K (.ref C) (.ref T) = some true := by
  rw [(EL.ErrC.cat Z).exm Z', err_in, decide_eq_true rfl, Bool.or_true]
theorem kit_err (Z : ErrC K C T) {C' : Addr} (Z' : ErrC K C' T) (hT : C' ≠ T) : PySem.W.kitOne K (.ref C) (.ref C') = some (decide (C' = C)) := by
  rw [(EL.ErrC.cat Z).kit (EL.ErrC.cat Z'), err_in, decide_eq_false hT, Bool.or_false]
theorem kit_two (Z : ErrC K C T) {C1 C2 : Addr} (Z1 : ErrC K C1 T) (Z2 : ErrC K C2 T) (h1 : C1 ≠ T) (h2 : C2 ≠ T) (n1 : C1 ≠ C) (n2 : C2 ≠ C) : PySem.W.kitAny K (.ref C) [.ref C1, .ref C2] = some false := by
  refine kitAny_cons (kit_err Z Z1 h1) (fun _ => ?_) (fun e => absurd (of_decide_eq_true e) n1)
  refine kitAny_cons (kit_err Z Z2 h2) (fun _ => ?_) (fun e => absurd (of_decide_eq_true e) n2)
  exact kitAny_nil
end
section
variable {X : Cx} {a C : Addr} {oe : Obj} {pn : List (Addr × Obj)} {bm : List Value}
/-- the error in the suite stands as its class says -/
theorem suite_inst {pins : List (Addr × Obj)} {s : Shared} {σ : L2.St} {H : Hp} {cls : Value} {d : Option Addr} {dd : Addr} {fs : List (Str × V)} (I : Inv (X.suite a ((a, oe) :: pn)) pins σ H s) (hz : Zc cls d oe) (hf : ∃ vs, oe.data = .fields vs) (ec : cls = .ref C) (ed : d = some dd)
    (e : H dd = some (.xd fs)) : ∃ od, PySem.W.InstAt s.heap a oe C (some od) := by
  subst ec
  subst ed
  obtain ⟨ha, _⟩ := I.pin (a, oe) (List.mem_append_left _ List.mem_cons_self)
  obtain ⟨vs, hd⟩ := hf
  obtain ⟨mA, hns, hr⟩ := (show ObjOk X.prog X.w H s.heap dd (.xd fs) from I.hok dd _ e)
  obtain ⟨od, ho, hl⟩ := lookIn_ns hns
  exact ⟨od, ha, hz.1, by unfold PySem.W.notCls; rw [hd] <;> rfl, by rw [hz.2]; exact ho⟩
theorem CatC.kitx {K : PySem.W.Frag} (Z : CatC K C bm) (DC : DscC K) {x : Addr} {ox : Obj} {od : Option Obj} : PySem.W.KitX K (.ref x) (.ref C) (fun h => PySem.W.InstAt h x ox C od) := by
  have hs : PySem.W.subIn K (.ref C) (.type "BaseException") = Option.some true := by
    rw [Z.sub, List.contains_cons, HandSPX.refsVE_contains "BaseException" _ Z.bm]
    rfl
  have hm : PySem.W.mroIn K C (.type "object") = Option.some true := by
    show PySem.W.subIn K (.ref C) (.type "object") = _
    rw [Z.sub, List.contains_cons, HandSPX.refsVE_contains "object" _ Z.bm]
    rfl
  exact PySem.W.ev_kitx Z.ga Z.gg hs Z.hd Z.ca DC.hn DC.ht hm
/-- isinstance(e, c), e the error that the suite holds -/
def rIsP (K : PySem.W.Frag) (a C : Addr) (cls : Value) (d : Option Addr) : List V → Hp → VK → Prop := fun xs H Q => ∃ (c : V) (cv : Value) (b : Bool) (dd : Addr) (fs : List (Str × V)), xs = [.ref a, c] ∧ cls = .ref C ∧ d = some dd ∧ H dd = some (.xd fs) ∧ ClsV c cv ∧ PySem.W.kitOne K (.ref C) cv = some b ∧ Q (.bl b) H
theorem call_isP {cls : Value} {d : Option Addr} (Z : CatC X.K C bm) (DC : DscC X.K) (hz : Zc cls d oe) (hf : ∃ vs, oe.data = .fields vs) : CallR (X.suite a ((a, oe) :: pn)) (.builtin "isinstance") (rIsP X.K a C cls d) := by
  intro pins s σ H xs us Q I r h
  obtain ⟨c, cv, b, dd, fs, rfl, ec, ed, e, hcv, ek, q⟩ := h
  obtain ⟨u1, u2, rfl, r1, r2⟩ := vals2 r
  cases r1
  have e2 := hcv.eq r2
  subst e2
  obtain ⟨od, J⟩ := suite_inst I hz hf ec ed e
  exact PySem.W.kia_one (Z.kitx DC) I.kIn J ek (fun z => nomatch z) fun tk => ⟨.bl b, H, I.tok tk, rfl, q⟩
/-- isinstance(e, (c1, c2, ..)) -/
def rIsPT (K : PySem.W.Frag) (a C : Addr) (cls : Value) (d : Option Addr) : List V → Hp → VK → Prop := fun xs H Q => ∃ (tp : Addr) (cs : List V) (us : List Value) (b : Bool) (dd : Addr) (fs : List (Str × V)), xs = [.ref a, .ref tp] ∧ cls = .ref C ∧ d = some dd ∧ H dd = some (.xd fs) ∧ H tp = some (.tup cs) ∧ Paired ClsV cs us ∧ PySem.W.kitAny K (.ref C) us = some b ∧ Q (.bl b) H
theorem call_isPT {cls : Value} {d : Option Addr} (Z : CatC X.K C bm) (DC : DscC X.K) (hz : Zc cls d oe) (hf : ∃ vs, oe.data = .fields vs) : CallR (X.suite a ((a, oe) :: pn)) (.builtin "isinstance") (rIsPT X.K a C cls d) := by
  intro pins s σ H xs us Q I r h
  obtain ⟨tp, cs, ws, b, dd, fs, rfl, ec, ed, e, hT, hcs, ek, q⟩ := h
  obtain ⟨u1, u2, rfl, r1, r2⟩ := vals2 r
  cases r1
  cases (show u2 = Value.ref tp from r2)
  obtain ⟨od, J⟩ := suite_inst I hz hf ec ed e
  obtain ⟨_, its, rv, o, h1, h2, n, h3⟩ := (show ObjOk X.prog X.w H s.heap tp (.tup cs) from I.hok tp _ hT)
  have e3 := ClsV.all hcs rv
  subst e3
  obtain ⟨oc, od', dt, sl⟩ := o
  dsimp only at h2 h3
  subst h2
  subst h3
  exact PySem.W.kia_tup (Z.kitx DC) I.kIn J h1 ek (fun z => nomatch z) fun tk => ⟨.bl b, H, I.tok tk, rfl, q⟩
end
end EL

set_option Elab.async false
set_option linter.all false
set_option maxRecDepth 100000
set_option maxHeartbeats 8000000
/-! k03: what the law calls, and what it makes of errors -/
namespace K2
open PySem PySem.Spec PyProof.Rows L2 EL LW ND
open Ln (L isTok isWord)
open PySem.EV (ErrC ErrI)
abbrev sCalled : Stmt := topS 85
abbrev sVery3 : Stmt := topS 86
abbrev sBased : Stmt := topS 87
abbrev nCa : List Str := ["_law_way", "_law_value", "_law_many", "e"]
theorem scCalled : FnScope nCa ["_law_way", "_law_value", "_law_many"] (defScope sCalled) := ⟨rfl, rfl, rfl, by decide +kernel, rfl, by decide +kernel, by decide +kernel⟩
theorem scVery3 : FnScope ["_law_told", "_law_word_here", "_law_thing", "_law_same"] ["_law_told", "_law_word_here", "_law_thing"] (defScope sVery3) := ⟨rfl, rfl, rfl, by decide +kernel, rfl, by decide +kernel, by decide +kernel⟩
theorem scBased : FnScope ["_law_value", "e"] ["_law_value"] (defScope sBased) := ⟨rfl, rfl, rfl, by decide +kernel, rfl, by decide +kernel, by decide +kernel⟩
theorem boot_VE : bootBuiltins (Str.ofString "ValueError") = some (.type "ValueError") := by decide +kernel
/-- the errors that the law names -/
structure Errs (K : PySem.W.Frag) (mg : Str → Option Value) (T CT CX CE CC : Addr) : Prop where
  t : ErrC K CT T
  x : ErrC K CX T
  e : ErrC K CE T
  c : ErrC K CC T
  b : CatC K T HandSPX.veTail
  mt : mg "InvalidToken" = some (.ref CT)
  mx : mg "InvalidText" = some (.ref CX)
  me : mg "InvalidEditions" = some (.ref CE)
  mc : mg "InvalidCount" = some (.ref CC)
  mb : mg "TongueError" = some (.ref T)
  dsc : DscC K
  nt : CT ≠ T
  nx : CX ≠ T
  ne : CE ≠ T
  nc : CC ≠ T
  tx : CT ≠ CX
  te : CT ≠ CE
  tc : CT ≠ CC
  xe : CX ≠ CE
  xc : CX ≠ CC
  ec : CE ≠ CC
  mis : mg "isinstance" = none
  mve : mg "ValueError" = none
section
variable {P : Program} {w : World} {K : PySem.W.Frag} {mg : Str → Option Value} {base : Heap} {D G T CT CX CE CC : Addr}
/-- refused: a word, the very object, no other kind, a ValueError -/
def RefW (H : Hp) (wd : Str) (v : V) (Q : VK) : Prop := ∀ H' t, Same H H' → H' t = some (.tup [.str wd, v, .bl false, .bl true]) → Q (.ref t) H'
def tSuit (K : PySem.W.Frag) (C : Addr) (wd : Str) (A B : Addr) : Suit := fun a cls d => tRet (tTup (tCons (tC (.str wd)) (tCons (tByVal C a cls d (tVar 3)) (tCons (tCB (rIsPT K a C cls d) (tCons (tVar 3) (tCons (tTup (tCons (tC (.ref A)) (tCons (tC (.ref B)) tNil))) tNil)))
  (tCons (tCB (rIsP K a C cls d) (tCons (tVar 3) (tCons (tC (.ty "ValueError")) tNil))) tNil)))))
theorem suit_run {C A B a dd : Addr} {wd : Str} {v : V} {σ : L2.St} {H : Hp} {De : Ends} (Z : ErrC K C T) (ZA : ErrC K A T) (ZB : ErrC K B T) (hA : A ≠ T) (hB : B ≠ T) (nA : A ≠ C) (nB : B ≠ C) (e : H dd = some (.xd [("value", v)])) (hσ : σ[3]? = some (some (.ref a))) (q : RefW H wd v De.rt) :
    tSuit K C wd A B a (.ref C) (some dd) De σ H := by
  refine ⟨.ref a, hσ, rfl, rfl, dd, v, rfl, e, .ref a, hσ, sz 2 (by decide), fun tp ntp => ?_⟩
  have s1 := same_upd (o := .tup [.ref A, .ref B]) ntp
  refine ⟨tp, [.ref A, .ref B], _, false, dd, _, rfl, rfl, rfl, s1 _ _ e, upd_same, .cons (ClsV.own A) (.cons (ClsV.own B) .nil), kit_two Z ZA ZB hA hB nA nB, ?_⟩
  refine ⟨.ref a, hσ, _, _, true, dd, _, rfl, rfl, rfl, s1 _ _ e, ClsV.ty _, (EL.ErrC.cat Z).kitVE, sz 4 (by decide), fun t nt => ?_⟩
  exact q _ t (s1.trans (same_upd nt)) upd_same
def hdls (K : PySem.W.Frag) (CT CX CE CC : Addr) : List (Value × Suit) := [(.ref CT, tSuit K CT "token" CX CC), (.ref CX, tSuit K CX "text" CT CC), (.ref CE, tSuit K CE "editions" CX CC), (.ref CC, tSuit K CC "count" CX CE)]
/-- each error goes to its clause -/
theorem catches (Z : Errs K mg T CT CX CE CC) {v : V} {H : Hp} {x0 x1 x2 x3 : Option V} {De : Ends} {Q : VK} (hq : De.rt = Q) {wd : Str} (q : RefW H wd v Q) :
    (wd = "token" → Refuses CT H v (WE (wNam K 3 (fun _ _ _ _ => False) De (hdls K CT CX CE CC)) [x0, x1, x2, x3])) ∧ (wd = "text" → Refuses CX H v (WE (wNam K 3 (fun _ _ _ _ => False) De (hdls K CT CX CE CC)) [x0, x1, x2, x3])) ∧
    (wd = "editions" → Refuses CE H v (WE (wNam K 3 (fun _ _ _ _ => False) De (hdls K CT CX CE CC)) [x0, x1, x2, x3])) ∧ (wd = "count" → Refuses CC H v (WE (wNam K 3 (fun _ _ _ _ => False) De (hdls K CT CX CE CC)) [x0, x1, x2, x3])) := by
  have hit : ∀ {C : Addr}, ErrC K C T → C ≠ T → PySem.W.exmOne K (.ref C) (.ref C) = some true := fun Z1 h => by rw [exm_err Z1 Z1 h, decide_eq_true rfl]
  have miss : ∀ {C C' : Addr}, ErrC K C T → ErrC K C' T → C' ≠ T → C' ≠ C → PySem.W.exmOne K (.ref C) (.ref C') = some false := fun Z1 Z2 h n => by rw [exm_err Z1 Z2 h, decide_eq_false n]
  have q1 : ∀ {H1 : Hp}, Same H H1 → RefW H1 wd v (offI 3 De).rt := fun s1 H' t s2 e => by
    show De.rt _ _
    rw [hq]
    exact q H' t (s1.trans s2) e
  refine ⟨?_, ?_, ?_, ?_⟩
  · rintro rfl d H1 s1 e1
    exact ⟨true, hit Z.t Z.nt, fun _ a na => suit_run Z.t Z.x Z.c Z.nx Z.nc Z.tx.symm Z.tc.symm e1 rfl (q1 s1), fun z => Bool.noConfusion z⟩
  · rintro rfl d H1 s1 e1
    refine ⟨false, miss Z.x Z.t Z.nt Z.tx, fun z => Bool.noConfusion z, fun _ => ?_⟩
    exact ⟨true, hit Z.x Z.nx, fun _ a na => suit_run Z.x Z.t Z.c Z.nt Z.nc Z.tx Z.xc.symm e1 rfl (q1 s1), fun z => Bool.noConfusion z⟩
  · rintro rfl d H1 s1 e1
    refine ⟨false, miss Z.e Z.t Z.nt Z.te, fun z => Bool.noConfusion z, fun _ => ?_⟩
    refine ⟨false, miss Z.e Z.x Z.nx Z.xe, fun z => Bool.noConfusion z, fun _ => ?_⟩
    exact ⟨true, hit Z.e Z.ne, fun _ a na => suit_run Z.e Z.x Z.c Z.nx Z.nc Z.xe Z.ec.symm e1 rfl (q1 s1), fun z => Bool.noConfusion z⟩
  · rintro rfl d H1 s1 e1
    refine ⟨false, miss Z.c Z.t Z.nt Z.tc, fun z => Bool.noConfusion z, fun _ => ?_⟩
    refine ⟨false, miss Z.c Z.x Z.nx Z.xc, fun z => Bool.noConfusion z, fun _ => ?_⟩
    refine ⟨false, miss Z.c Z.e Z.ne Z.ec, fun z => Bool.noConfusion z, fun _ => ?_⟩
    exact ⟨true, hit Z.c Z.nc, fun _ a na => suit_run Z.c Z.x Z.e Z.nx Z.ne Z.xc Z.ec e1 rfl (q1 s1), fun z => Bool.noConfusion z⟩
def tCalled (P : Program) (w : World) (K : PySem.W.Frag) (D G CT CX CE CC : Addr) (W : WX) : TS :=
  tSeq (tIfS (tTest (tOp rEq (tVar 0) (tC (.str "kind")))) (tRet (tTup (tCons (tC (.str "told")) (tCons (tCallS (spKind K CT) (WE W) (tCons (tVar 1) tNil)) tNil)))) tNext)
    (tSeq (tIfS (tTest (tOp rEq (tVar 0) (tC (.str "unmarked")))) (tRet (tTup (tCons (tC (.str "told")) (tCons (tCallS (spUnm K CX) (WE W) (tCons (tVar 1) tNil)) tNil)))) tNext)
      (tRet (tTup (tCons (tC (.str "told")) (tCons (tCallS (spFree P w K D G CE CC) (WE W) (tCons (tVar 1) (tCons (tVar 2) tNil))) tNil)))))
def spCalled (P : Program) (w : World) (K : PySem.W.Frag) (D G : Addr) : Sp := fun vs H Q _ => ∃ (v m : V),
  (vs = [.str "kind", v, m] ∧ Plain K H v ∧ (∀ x : Str, v = .str x → isTok (cp x) = true → ∀ H' t, Same H H' → H' t = some (.tup [.str "told", .str (kindOf x)]) → Q (.ref t) H') ∧ (ofS isTok v = false → RefW H "token" v Q)) ∨
  (vs = [.str "unmarked", v, m] ∧ TxV K H v false ∧ RefW H "text" v Q) ∨
  (vs = [.str "free", v, m] ∧ ((EdV K D H v false ∧ RefW H "editions" v Q) ∨
    ∃ (a : Addr) (xs : List V) (qs : List (List Fm × List Str)), v = .ref a ∧ H a = some (.lst xs) ∧ Paired (EdAt P w D G H) xs qs ∧ qs.length ≤ 10 ∧ EdV K D H v true ∧ ((∃ i : Int, m = .int i ∧ 1000 < i) ∨ CntV K H m false) ∧ RefW H "count" m Q))
theorem ok_called {f fK fU fF : Addr} {fd dK dU dF : FuncData} (F : Fun K "_law_called" "_law_called" sCalled f fd) (Z : Errs K mg T CT CX CE CC)
    (kK : PySem.W.keepIn K (.ref fK) = true) (GK : FnOk P w K mg base (L2.CX P w) 6 fK dK ["token"] (spKind K CT)) (bK : Binds K dK ["token"] []) (gK : mg "kind" = some (.ref fK))
    (kU : PySem.W.keepIn K (.ref fU) = true) (GU : FnOk P w K mg base (L2.CX P w) 7 fU dU ["text"] (spUnm K CX)) (bU : Binds K dU ["text"] []) (gU : mg "unmarked" = some (.ref fU))
    (kF : PySem.W.keepIn K (.ref fF) = true) (GF : FnOk P w K mg base (L2.CX P w) 3 fF dF ["editions", "many"] (spFree P w K D G CE CC)) (bF : Binds K dF ["editions", "many"] []) (gF : mg "free_words" = some (.ref fF)) :
    FnOk P w K mg base CX0 8 f fd ["_law_way", "_law_value", "_law_many"] (spCalled P w K D G) := by
  refine F.ok scCalled (fun vs H Q E h => ?_) (fun cdv A outer s H vs Q E hr h => ?_)
  · obtain ⟨v, m, ⟨rfl, _⟩ | ⟨rfl, _⟩ | ⟨rfl, _⟩⟩ := h <;> rfl
  · have nd := scCalled.nd
    have r6 := hr.mono (by decide : 6 ≤ 7)
    have r3 := hr.mono (by decide : 3 ≤ 7)
    refine ⟨_, pss_one (ps_try_named (i := 3) (n := "e") (tb := tCalled P w K D G CT CX CE CC) (l := hdls K CT CX CE CC) (W0 := fun _ _ _ _ => False) rfl rfl nd rfl rfl takes0
        (fun W pn xe tk _ => pss_cons (ps_if (pt_cmpR op_eq (pv 0) pe_str (nomark _)) (pss_one (ps_ret (by exact (pe_tup (pa_cons pe_str (pa_cons (pe_callS GK r6 rfl gK kK bK (fun σ => passAt tk σ) (by exact (pa_cons (pv 1) pa_nil))) pa_nil)))))) pss_nil)
          (pss_cons (ps_if (pt_cmpR op_eq (pv 0) pe_str (nomark _)) (pss_one (ps_ret (by exact (pe_tup (pa_cons pe_str (pa_cons (pe_callS GU hr rfl gU kU bU (fun σ => passAt tk σ) (by exact (pa_cons (pv 1) pa_nil))) pa_nil)))))) pss_nil)
          (pss_one (ps_ret (by exact (pe_tup (pa_cons pe_str (pa_cons (pe_callS GF r3 rfl gF kF bF (fun σ => passAt tk σ) (by exact (pa_cons (pv 1) (pa_cons (pv 2) pa_nil)))) pa_nil))))))))
        (.cons (q := (.ref CT, tSuit K CT "token" CX CC)) ⟨rfl, by decide, Or.inl Z.mt⟩ (fun a oe cls d pn hz hf => by
          show PSs _ _ (tSuit K CT "token" CX CC a cls d)
          unfold tSuit
          refine pss_one (ps_ret ?_)
          refine pe_tup (pa_cons pe_str (pa_cons (pe_byVal Z.t hz hf (pv 3)) (pa_cons ?_ (pa_cons ?_ pa_nil))))
          · refine pe_callB (call_isPT (EL.ErrC.cat Z.t) Z.dsc hz hf) (by rfl) Z.mis boot_isi ?_
            exact pa_cons (pv 3) (pa_cons (pe_tup (pa_cons (pe_glob (v := .ref CX) (by rfl) Z.mx rfl) (pa_cons (pe_glob (v := .ref CC) (by rfl) Z.mc rfl) pa_nil))) pa_nil)
          · refine pe_callB (call_isP (EL.ErrC.cat Z.t) Z.dsc hz hf) (by rfl) Z.mis boot_isi ?_
            exact pa_cons (pv 3) (pa_cons (pe_bltn (v := .ty "ValueError") (by rfl) Z.mve boot_VE rfl) pa_nil))
        (.cons (q := (.ref CX, tSuit K CX "text" CT CC)) ⟨rfl, by decide, Or.inl Z.mx⟩ (fun a oe cls d pn hz hf => by
          show PSs _ _ (tSuit K CX "text" CT CC a cls d)
          unfold tSuit
          refine pss_one (ps_ret ?_)
          refine pe_tup (pa_cons pe_str (pa_cons (pe_byVal Z.x hz hf (pv 3)) (pa_cons ?_ (pa_cons ?_ pa_nil))))
          · refine pe_callB (call_isPT (EL.ErrC.cat Z.x) Z.dsc hz hf) (by rfl) Z.mis boot_isi ?_
            exact pa_cons (pv 3) (pa_cons (pe_tup (pa_cons (pe_glob (v := .ref CT) (by rfl) Z.mt rfl) (pa_cons (pe_glob (v := .ref CC) (by rfl) Z.mc rfl) pa_nil))) pa_nil)
          · refine pe_callB (call_isP (EL.ErrC.cat Z.x) Z.dsc hz hf) (by rfl) Z.mis boot_isi ?_
            exact pa_cons (pv 3) (pa_cons (pe_bltn (v := .ty "ValueError") (by rfl) Z.mve boot_VE rfl) pa_nil))
        (.cons (q := (.ref CE, tSuit K CE "editions" CX CC)) ⟨rfl, by decide, Or.inl Z.me⟩ (fun a oe cls d pn hz hf => by
          show PSs _ _ (tSuit K CE "editions" CX CC a cls d)
          unfold tSuit
          refine pss_one (ps_ret ?_)
          refine pe_tup (pa_cons pe_str (pa_cons (pe_byVal Z.e hz hf (pv 3)) (pa_cons ?_ (pa_cons ?_ pa_nil))))
          · refine pe_callB (call_isPT (EL.ErrC.cat Z.e) Z.dsc hz hf) (by rfl) Z.mis boot_isi ?_
            exact pa_cons (pv 3) (pa_cons (pe_tup (pa_cons (pe_glob (v := .ref CX) (by rfl) Z.mx rfl) (pa_cons (pe_glob (v := .ref CC) (by rfl) Z.mc rfl) pa_nil))) pa_nil)
          · refine pe_callB (call_isP (EL.ErrC.cat Z.e) Z.dsc hz hf) (by rfl) Z.mis boot_isi ?_
            exact pa_cons (pv 3) (pa_cons (pe_bltn (v := .ty "ValueError") (by rfl) Z.mve boot_VE rfl) pa_nil))
        (.cons (q := (.ref CC, tSuit K CC "count" CX CE)) ⟨rfl, by decide, Or.inl Z.mc⟩ (fun a oe cls d pn hz hf => by
          show PSs _ _ (tSuit K CC "count" CX CE a cls d)
          unfold tSuit
          refine pss_one (ps_ret ?_)
          refine pe_tup (pa_cons pe_str (pa_cons (pe_byVal Z.c hz hf (pv 3)) (pa_cons ?_ (pa_cons ?_ pa_nil))))
          · refine pe_callB (call_isPT (EL.ErrC.cat Z.c) Z.dsc hz hf) (by rfl) Z.mis boot_isi ?_
            exact pa_cons (pv 3) (pa_cons (pe_tup (pa_cons (pe_glob (v := .ref CX) (by rfl) Z.mx rfl) (pa_cons (pe_glob (v := .ref CE) (by rfl) Z.me rfl) pa_nil))) pa_nil)
          · refine pe_callB (call_isP (EL.ErrC.cat Z.c) Z.dsc hz hf) (by rfl) Z.mis boot_isi ?_
            exact pa_cons (pv 3) (pa_cons (pe_bltn (v := .ty "ValueError") (by rfl) Z.mve boot_VE rfl) pa_nil)) .nil))))), ?_⟩
    have dks : ∀ x y : Str, decide (V.str x = V.str y) = decide (x = y) := dec_s2
    obtain ⟨v, m, ⟨rfl, hv, q1, q2⟩ | ⟨rfl, hv, q2⟩ | ⟨rfl, hv⟩⟩ := h
    · refine ⟨_, rfl, rfl, _, rfl, ?_⟩
      rw [decide_eq_true rfl]
      refine iteT ⟨_, rfl, v, rfl, hv, fun x e ht H1 s1 => ?_, fun hb => (catches Z rfl (q2 hb)).1 rfl⟩
      exact ⟨sz 2 (by decide), fun t nt => q1 x e ht _ t (s1.trans (same_upd nt)) upd_same⟩
    · refine ⟨_, rfl, rfl, _, rfl, ?_⟩
      rw [dks, decide_eq_false (by decide)]
      refine iteF ⟨_, rfl, rfl, _, rfl, ?_⟩
      rw [decide_eq_true rfl]
      exact iteT ⟨_, rfl, v, false, rfl, hv, fun z => Bool.noConfusion z, fun _ => (catches Z rfl q2).2.1 rfl⟩
    · refine ⟨_, rfl, rfl, _, rfl, ?_⟩
      rw [dks, decide_eq_false (by decide)]
      refine iteF ⟨_, rfl, rfl, _, rfl, ?_⟩
      rw [dks, decide_eq_false (by decide)]
      refine iteF ⟨_, rfl, _, rfl, v, m, rfl, ?_⟩
      rcases hv with ⟨hv, q2⟩ | ⟨a, xs, qs, rfl, h1, h2, h3, h4, h5, q2⟩
      · exact .inl ⟨hv, (catches Z rfl q2).2.2.1 rfl⟩
      · exact .inr ⟨a, xs, qs, rfl, h1, h2, h3, h4, .inr ⟨h5, (catches Z rfl q2).2.2.2 rfl⟩⟩
end
end K2

set_option Elab.async false
set_option linter.all false
set_option maxRecDepth 100000
set_option maxHeartbeats 8000000
/-! k03: the very thing; what the base of errors takes -/
namespace K2
open PySem PySem.Spec PyProof.Rows L2 EL LW ND
open Ln (L isTok isWord)
open PySem.EV (ErrC ErrI)
/-- a thing that is refused: no list, or a list whose items are like themselves whatever is done to it -/
def Thing3 (K : PySem.W.Frag) (D : Addr) (H : Hp) (v : V) : Prop := (NoL K H v ∧ EqE D H 6 v v) ∨ (∃ (a : Addr) (xs : List V), v = .ref a ∧ H a = some (.lst xs) ∧ xs.length ≤ 1000 ∧ ∀ x ∈ xs, ∀ H', Keep a H H' → EqE D H' 5 x x)
theorem Thing3.same {K : PySem.W.Frag} {D : Addr} {H H' : Hp} {v : V} (s : Same H H') : Thing3 K D H v → Thing3 K D H' v := fun h => by
  rcases h with ⟨h1, h2⟩ | ⟨a, xs, e, h1, h2, h3⟩
  · exact .inl ⟨h1.same s, h2.same s⟩
  · exact .inr ⟨a, xs, e, s _ _ h1, h2, fun x hx H2 k => h3 x hx H2 ((Same.keep s).trans k)⟩
theorem EqE.up {D : Addr} {H : Hp} : ∀ {k : Nat} {v w : V}, EqE D H k v w → EqE D H (k + 1) v w
  | 0, _, _, h => .inl h
  | k + 1, _, _, h => by
    rcases h with h | ⟨a, b, xs, ys, e1, e2, h, p, z⟩ | ⟨a, kvs, h1, e1, e2, h2, h3, h4⟩ | ⟨a, h1, e1, e2, h⟩
    · exact .inl h
    · exact .inr (.inl ⟨a, b, xs, ys, e1, e2, h, Paired.mapP p fun _ _ q => EqE.up q, z⟩)
    · exact .inr (.inr (.inl ⟨a, kvs, by omega, e1, e2, h2, h3, fun kv hk => ⟨(h4 kv hk).1.imp id fun ⟨z, y⟩ => ⟨by omega, y⟩, (h4 kv hk).2⟩⟩))
    · exact .inr (.inr (.inr ⟨a, by omega, e1, e2, h⟩))
theorem refl_items {D a : Addr} {H H' : Hp} {k : Nat} : ∀ {xs : List V}, (∀ x ∈ xs, EqE D H' k x x) → Paired (EqE D H' k) xs xs
  | [], _ => .nil
  | x :: xs, h => .cons (h x List.mem_cons_self) (refl_items (a := a) (H := H) fun y hy => h y (List.mem_cons_of_mem _ hy))
section
variable {P : Program} {w : World} {K : PySem.W.Frag} {mg : Str → Option Value} {base : Heap} {D G T CT CX CE CC : Addr}
def spVery3 (K : PySem.W.Frag) (D : Addr) : Sp := fun vs H Q _ => ∃ (t : Addr) (wd : Str) (v : V), vs = [.ref t, .str wd, v] ∧ H t = some (.tup [.str wd, v, .bl false, .bl true]) ∧ Thing3 K D H v ∧ ∀ H', Same H H' → Q (.bl true) H'
theorem ok_very3 {f fX : Addr} {fd dX : FuncData} (F : Fun K "_law_very" "_law_very" sVery3 f fd) (kX : PySem.W.keepIn K (.ref fX) = true) (GX : FnOk P w K mg base CX0 8 fX dX ["_law_one", "_law_other"] (spXE D 8)) (bX : Binds K dX ["_law_one", "_law_other"] []) (gX : mg "_law_exact" = some (.ref fX)) (mis : mg "isinstance" = none) (mli : mg "list" = none) :
    FnOk P w K mg base CX0 9 f fd ["_law_told", "_law_word_here", "_law_thing"] (spVery3 K D) := by
  refine F.ok scVery3 (fun vs H Q E h => ?_) (fun cdv A outer s H vs Q E hr h => ?_)
  · obtain ⟨t, wd, v, rfl, _⟩ := h
    rfl
  · obtain ⟨t, wd, v, rfl, ht, hv, q⟩ := h
    have nd := scVery3.nd
    refine ⟨_, pss_cons (ps_if (pt_not (pt_val (pe_call GX hr (by rfl) gX kX bX .nil pass0 (pa_cons (pv 0) (pa_cons (pe_tup (pa_cons (pv 1) (pa_cons (pv 2) (pa_cons pe_bl (pa_cons pe_bl pa_nil))))) pa_nil))))) (pss_one (ps_ret pe_bl)) pss_nil)
      (pss_cons (ps_if (pt_val (pe_callB call_isi (by rfl) mis boot_isi (pa_cons (pv 2) (pa_cons (pe_bltn (v := .ty "list") (by rfl) mli boot_list rfl) pa_nil))))
        (pss_cons (ps_expr (pe_bm PySem.F.plainAttrs_list PySem.F.slot_list_append PySem.F.type_list_append mt_append (pv 2) (pa_cons pe_str pa_nil)))
        (pss_cons (ps_set (i := 3) nd rfl (.inl rfl) (pe_call GX hr (by rfl) gX kX bX .nil pass0 (pa_cons (pe_ix ix_tup (pv 0) pe_int (fun _ _ => rfl)) (pa_cons (pv 2) pa_nil))))
        (pss_cons (ps_expr (pe_bm0 PySem.F.plainAttrs_list PySem.F.slot_list_pop PySem.F.type_list_pop mt_pop (pv 2)))
        (pss_one (ps_ret (pv 3)))))) pss_nil)
      (pss_one (ps_ret pe_bl))), ?_⟩
    have self6 : ∀ H1, Same H H1 → EqE D H1 6 v v := fun H1 s1 => by
      rcases hv with ⟨_, h⟩ | ⟨a, xs, rfl, e, hl, hx⟩
      · exact h.same s1
      · exact .inr (.inl ⟨a, a, xs, xs, rfl, rfl, .inl ⟨s1 _ _ e, s1 _ _ e⟩, refl_items (a := a) (H := H) fun x hxm => hx x hxm H1 (Same.keep s1), by omega⟩)
    refine ⟨.ref t, rfl, _, rfl, v, rfl, sz 4 (by decide), fun t2 n2 => ?_⟩
    have s1 := same_upd (o := .tup [.str wd, v, .bl false, .bl true]) n2
    refine ⟨.ref t, .ref t2, rfl, .inr (.inl ⟨t, t2, _, _, rfl, rfl, .inr ⟨s1 _ _ ht, upd_same⟩, .cons (atom_eqe (.str _) 6) (.cons (self6 _ s1) (.cons (atom_eqe (.bl _) 6) (.cons (atom_eqe (.bl _) 6) .nil))), by simp⟩), fun H2 s2 => ⟨true, rfl, iteF ?_⟩⟩
    have s02 := s1.trans s2
    rcases hv with ⟨⟨tt, kt, ty⟩, _⟩ | ⟨a, xs, rfl, e, hl, hx⟩
    · exact ⟨v, rfl, _, _, tt, _, false, rfl, ClsV.ty _, ty _ s02, kt, false, rfl, iteF (q _ s02)⟩
    · have e2 := s02 _ _ e
      refine ⟨.ref a, rfl, _, _, _, _, true, rfl, ClsV.ty _, .base (.lst e2), kit_ty (by decide +kernel), true, rfl, iteT ?_⟩
      refine ⟨.ref a, rfl, .inl ⟨rfl, _, SqL.of e2⟩, a, xs, .str "later", rfl, rfl, e2, Nat.lt_of_lt_of_le (by omega : _ < 100000) (sz _ (Nat.le_refl _)), ?_⟩
      have ta : t ≠ a := fun z => by rw [z, e] at ht; cases ht
      have hk : Keep a H (upd H2 a (.lst (xs ++ [.str "later"]))) := (Same.keep s02).trans keep_upd
      refine ⟨.ref t, rfl, t, [.str wd, .ref a, .bl false, .bl true], 1, .ref a, rfl, rfl, SqT.of (hk _ _ ta ht), atI_nat (j := 1) rfl, .ref a, rfl, ?_⟩
      refine ⟨.ref a, .ref a, rfl, .inr (.inl ⟨a, a, _, _, rfl, rfl, .inl ⟨upd_same, upd_same⟩, ?_, by rw [List.length_append]; simp; omega⟩), fun H3 s3 => ?_⟩
      · refine refl_items (a := a) (H := H) fun x hxm => ?_
        rw [List.mem_append, List.mem_singleton] at hxm
        rcases hxm with h | rfl
        · exact EqE.up (hx x h _ hk)
        · exact atom_eqe (.str _) 6
      · have e3 := s3 _ _ (upd_same (H := H2) (a := a) (o := .lst (xs ++ [.str "later"])))
        refine ⟨.ref a, rfl, .inl ⟨rfl, _, SqL.of e3⟩, a, _, .str "later", rfl, rfl, e3, by simp, ?_⟩
        refine ⟨.bl true, rfl, q _ fun b o hb => ?_⟩
        rw [List.dropLast_concat]
        by_cases hba : b = a
        · rw [hba, upd_same, ← e, ← hba]
          exact hb
        · rw [upd_ne hba]
          exact s3 _ _ (hk _ _ hba hb)
/-- what the base of the errors takes -/
def spBased (K : PySem.W.Frag) : Sp := fun vs H Q _ => ∃ v : V, vs = [v] ∧ Plain K H v ∧ (∀ x : Str, v = .str x → isTok (cp x) = true → ∀ H' t, Same H H' → H' t = some (.tup [.str "told"]) → Q (.ref t) H') ∧ (ofS isTok v = false → ∀ H' t, Same H H' → H' t = some (.tup [.str "refused", .bl true]) → Q (.ref t) H')
def tBased (K : PySem.W.Frag) (CT a : Addr) (cls : Value) (d : Option Addr) : TS := tRet (tTup (tCons (tC (.str "refused")) (tCons (tCB (rIsP K a CT cls d) (tCons (tVar 1) (tCons (tC (.ref CT)) tNil))) tNil)))
theorem ok_based {f fK : Addr} {fd dK : FuncData} (F : Fun K "_law_based" "_law_based" sBased f fd) (Z : Errs K mg T CT CX CE CC)
    (kK : PySem.W.keepIn K (.ref fK) = true) (GK : FnOk P w K mg base (L2.CX P w) 6 fK dK ["token"] (spKind K CT)) (bK : Binds K dK ["token"] []) (gK : mg "kind" = some (.ref fK)) :
    FnOk P w K mg base CX0 7 f fd ["_law_value"] (spBased K) := by
  refine F.ok scBased (fun vs H Q E h => ?_) (fun cdv A outer s H vs Q E hr h => ?_)
  · obtain ⟨v, rfl, _⟩ := h
    rfl
  · obtain ⟨v, rfl, hv, q1, q2⟩ := h
    have nd := scBased.nd
    refine ⟨_, pss_cons (ps_try_as (i := 1) (tb := fun W => tDrop (tCallS (spKind K CT) (WE W) (tCons (tVar 0) tNil))) (ts := tBased K CT) (Wout := fun _ _ _ _ => False) rfl rfl nd rfl rfl ⟨rfl, by decide, Or.inl Z.mb⟩ takes0
        (fun W pn xe tk _ => pss_one (ps_expr (by exact (pe_callS GK hr rfl gK kK bK (fun σ => passAt tk σ) (by exact (pa_cons (pv 0) pa_nil))))))
        (fun a oe cls d pn hz hf => by
          show PSs _ _ (tBased K CT a cls d)
          unfold tBased
          refine pss_one (ps_ret ?_)
          refine pe_tup (pa_cons pe_str (pa_cons ?_ pa_nil))
          refine pe_callB (call_isP (EL.ErrC.cat Z.t) Z.dsc hz hf) (by rfl) Z.mis boot_isi ?_
          exact pa_cons (pv 1) (pa_cons (pe_glob (v := .ref CT) (by rfl) Z.mt rfl) pa_nil)))
      (pss_one (ps_ret (pe_tup (pa_cons pe_str pa_nil)))), ?_⟩
    refine ⟨_, rfl, v, rfl, hv, fun x e ht H1 s1 => ?_, fun hb d H1 s1 e1 => ?_⟩
    · exact ⟨sz 1 (by decide), fun t nt => q1 x e ht _ t (s1.trans (same_upd nt)) upd_same⟩
    · refine ⟨true, exm_base Z.t Z.b, fun _ a na => ?_, fun z => Bool.noConfusion z⟩
      refine ⟨.ref a, rfl, _, _, true, d, _, rfl, rfl, rfl, e1, ClsV.own CT, by rw [kit_err Z.t Z.t Z.nt, decide_eq_true rfl], sz 2 (by decide), fun t nt => ?_⟩
      exact q2 hb _ t (s1.trans (same_upd nt)) upd_same
end
end K2

set_option Elab.async false
set_option linter.all false
set_option maxRecDepth 100000
set_option maxHeartbeats 8000000
/-! k03: what stands in the law's rows -/
namespace K2
open PySem PySem.Spec PyProof.Rows L2 EL LW ND
open Ln (L isTok isWord isNum isQuoted)
def AllStr (ys : List V) : Prop := ys.length ≤ 100 ∧ ∀ y ∈ ys, ∃ x, y = .str x
/-- the things in the rows -/
inductive Desc (D : Addr) (H : Hp) : V → Prop
  | str (x : Str) (h : x.length ≤ 1000) : Desc D H (.str x)
  | non : Desc D H .non
  | bl (b : Bool) : Desc D H (.bl b)
  | int (i : Int) : Desc D H (.int i)
  | lst {b : Addr} {ys : List V} (e : H b = some (.lst ys)) (h : AllStr ys) : Desc D H (.ref b)
  | nest {b c : Addr} {ys : List V} (e : H b = some (.lst [.ref c])) (e2 : H c = some (.lst ys)) (h : AllStr ys) : Desc D H (.ref b)
  | tup {b : Addr} {ys : List V} (e : H b = some (.tup ys)) (h : AllStr ys) : Desc D H (.ref b)
  | dict {b : Addr} {kvs : List (Key × V)} (e : H b = some (.dK kvs)) (hl : kvs.length ≤ 100) (h : ∀ kv ∈ kvs, (∃ i, kv.2 = .int i) ∧ valV kvs kv.1 = some kv.2) : Desc D H (.ref b)
  | ed {b : Addr} (e : EdEq D H b) : Desc D H (.ref b)
theorem Desc.same {D : Addr} {H H' : Hp} {v : V} (s : Same H H') (h : Desc D H v) : Desc D H' v := by
  cases h with
  | str x h => exact .str x h
  | non => exact .non
  | bl b => exact .bl b
  | int i => exact .int i
  | lst e h => exact .lst (s _ _ e) h
  | nest e e2 h => exact .nest (s _ _ e) (s _ _ e2) h
  | tup e h => exact .tup (s _ _ e) h
  | dict e hl h => exact .dict (s _ _ e) hl h
  | ed e => exact .ed (e.same s)
/-- a purse stands at a -/
def PurseAt (H : Hp) (a : Addr) : Prop := ∃ (i : Int) (vs : List V), H a = some (.lst (.int i :: vs))
theorem PurseAt.of {H : Hp} {a : Addr} {n : Nat} (h : Purse H a n) : PurseAt H a := by
  obtain ⟨p, q, t, i, e, _⟩ := h
  exact ⟨p, _, e⟩
theorem no_purse {H : Hp} {a b : Addr} {ys : List V} (hp : PurseAt H a) (e : H b = some (.lst ys)) (h : ∀ y ∈ ys, ∀ i, y ≠ .int i) : b ≠ a := fun z => by
  obtain ⟨i, vs, e2⟩ := hp
  rw [z, e2] at e
  injection e with e
  injection e with e
  exact h (.int i) (by rw [← e]; exact List.mem_cons_self) i rfl
theorem no_purse' {H : Hp} {a b : Addr} {o : HO} (hp : PurseAt H a) (e : H b = some o) (h : ∀ xs, o ≠ .lst xs) : b ≠ a := fun z => by
  obtain ⟨i, vs, e2⟩ := hp
  rw [z, e2] at e
  exact h _ (Option.some.inj e).symm
theorem AllStr.noint {ys : List V} (h : AllStr ys) : ∀ y ∈ ys, ∀ i, y ≠ .int i := fun y hy i e => by
  obtain ⟨x, hx⟩ := h.2 y hy
  rw [hx] at e
  cases e
theorem EdEq.keepP {D a : Addr} {H H' : Hp} {b : Addr} (hp : PurseAt H a) (k : Keep a H H') : EdEq D H b → EdEq D H' b := fun ⟨dx, l1, l2, g, ys, zs, e, e1, e2, h1, h2⟩ =>
  ⟨dx, l1, l2, g, ys, zs, k _ _ (no_purse' hp e fun _ z => by cases z) e, k _ _ (no_purse hp e1 fun y hy i z => by obtain ⟨x, hx⟩ := h1 y hy; rw [hx] at z; cases z) e1,
    k _ _ (no_purse hp e2 fun y hy i z => by obtain ⟨x, hx⟩ := h2 y hy; rw [hx] at z; cases z) e2, h1, h2⟩
theorem Desc.keepP {D a : Addr} {H H' : Hp} {v : V} (hp : PurseAt H a) (k : Keep a H H') (h : Desc D H v) : Desc D H' v := by
  cases h with
  | str x h => exact .str x h
  | non => exact .non
  | bl b => exact .bl b
  | int i => exact .int i
  | lst e h => exact .lst (k _ _ (no_purse hp e h.noint) e) h
  | nest e e2 h => exact .nest (k _ _ (no_purse hp e fun y hy i z => by rw [List.mem_singleton.mp hy] at z; cases z) e) (k _ _ (no_purse hp e2 h.noint) e2) h
  | tup e h => exact .tup (k _ _ (no_purse' hp e fun _ z => by cases z) e) h
  | dict e hl h => exact .dict (k _ _ (no_purse' hp e fun _ z => by cases z) e) hl h
  | ed e => exact .ed (e.keepP hp k)
section
variable {K : PySem.W.Frag} {D : Addr}
theorem nos_of {H : Hp} {v : V} {n : String} (hs : ∀ x, v ≠ .str x) (hk : kitB n "str" = some false) (ty : ∀ H', Same H H' → TyX K H' v (.type n)) : Plain K H v := .inr ⟨hs, .type n, kit_ty hk, ty⟩
theorem Desc.plain (Z : EdK K D) {H : Hp} {v : V} (h : Desc D H v) : Plain K H v := by
  cases h with
  | str x h => exact .inl ⟨x, rfl, by omega⟩
  | non => exact nos_of (fun x z => by cases z) (by decide +kernel) fun H' _ => .base .non
  | bl b => exact nos_of (fun x z => by cases z) (by decide +kernel) fun H' _ => .base (.bl b)
  | int i => exact nos_of (fun x z => by cases z) (by decide +kernel) fun H' _ => .base (.int i)
  | lst e h => exact nos_of (fun x z => by cases z) (by decide +kernel) fun H' s => .base (.lst (s _ _ e))
  | nest e e2 h => exact nos_of (fun x z => by cases z) (by decide +kernel) fun H' s => .base (.lst (s _ _ e))
  | tup e h => exact nos_of (fun x z => by cases z) (by decide +kernel) fun H' s => .base (.tup (s _ _ e))
  | dict e hl h => exact nos_of (fun x z => by cases z) (by decide +kernel) fun H' s => .base (.dK (s _ _ e))
  | ed e =>
    obtain ⟨dx, l1, l2, g, ys, zs, e, _⟩ := e
    exact .inr ⟨fun x z => (nomatch z), .ref D, Z.ns, fun H' s => Z.ty (s _ _ e)⟩
theorem nol_of {H : Hp} {v : V} {n : String} (hk : kitB n "list" = some false) (ty : ∀ H', Same H H' → TyX K H' v (.type n)) (e : EqE D H 6 v v) : Thing3 K D H v := .inl ⟨⟨.type n, kit_ty hk, ty⟩, e⟩
theorem strs_refl {H : Hp} {k : Nat} {ys : List V} (h : ∀ y ∈ ys, ∃ x, y = .str x) : Paired (EqE D H k) ys ys := refl_items (a := 0) (H := H) fun y hy => by
  obtain ⟨x, rfl⟩ := h y hy
  exact atom_eqe (.str x) k
theorem Desc.thing (Z : EdK K D) {H : Hp} {v : V} (h : Desc D H v) : Thing3 K D H v := by
  cases h with
  | str x h => exact nol_of (by decide +kernel) (fun H' _ => .base (.str x)) (atom_eqe (.str x) 6)
  | non => exact nol_of (by decide +kernel) (fun H' _ => .base .non) (atom_eqe .non 6)
  | bl b => exact nol_of (by decide +kernel) (fun H' _ => .base (.bl b)) (atom_eqe (.bl b) 6)
  | int i => exact nol_of (by decide +kernel) (fun H' _ => .base (.int i)) (atom_eqe (.int i) 6)
  | @lst b ys e h => exact .inr ⟨b, ys, rfl, e, by have := h.1; omega, fun x hx H' k => by obtain ⟨z, rfl⟩ := h.2 x hx; exact atom_eqe (.str z) 5⟩
  | @nest b c ys e e2 h =>
    have hc : c ≠ b := fun z => by
      rw [z, e] at e2
      injection e2 with e2
      injection e2 with e2
      obtain ⟨x, hx⟩ := h.2 (.ref c) (by rw [← e2]; exact List.mem_cons_self)
      cases hx
    refine .inr ⟨b, _, rfl, e, by simp, fun x hx H' k => ?_⟩
    rw [List.mem_singleton.mp hx]
    exact .inr (.inl ⟨c, c, ys, ys, rfl, rfl, .inl ⟨k _ _ hc e2, k _ _ hc e2⟩, strs_refl h.2, by have := h.1; omega⟩)
  | @tup b ys e h => exact nol_of (by decide +kernel) (fun H' s => .base (.tup (s _ _ e))) (.inr (.inl ⟨b, b, ys, ys, rfl, rfl, .inr ⟨e, e⟩, strs_refl h.2, by have := h.1; omega⟩))
  | @dict b kvs e hl h => exact nol_of (by decide +kernel) (fun H' s => .base (.dK (s _ _ e))) (.inr (.inr (.inl ⟨b, kvs, (show 1 ≤ 5 by decide), rfl, rfl, e, Nat.le_trans hl (by decide), fun kv hk => ⟨.inl (h kv hk).1, (h kv hk).2⟩⟩)))
  | ed e =>
    obtain ⟨dx, l1, l2, g, ys, zs, e1, _⟩ := id e
    exact .inl ⟨⟨.ref D, Z.nl, fun H' s => Z.ty (s _ _ e1)⟩, .inr (.inr (.inr ⟨_, (show 1 ≤ 5 by decide), rfl, rfl, e⟩))⟩
end
theorem kind_ne (x : Str) : kindOf x ≠ Str.ofString "" := by
  unfold kindOf
  repeat' split
  all_goals decide +kernel
/-- a thing and what is due -/
def KRow (D : Addr) (H : Hp) (x : V) (due : Str) : Prop := Desc D H x ∧ ((∃ s, x = .str s ∧ isTok (cp s) = true ∧ due = kindOf s) ∨ (due = Str.ofString "" ∧ ofS isTok x = false))
theorem KRow.same {D : Addr} {H H' : Hp} {x : V} {due : Str} (s : Same H H') (h : KRow D H x due) : KRow D H' x due := ⟨h.1.same s, h.2⟩
theorem KRow.keepP {D a : Addr} {H H' : Hp} {x : V} {due : Str} (hp : PurseAt H a) (k : Keep a H H') (h : KRow D H x due) : KRow D H' x due := ⟨h.1.keepP hp k, h.2⟩
def RowK (D : Addr) (H : Hp) (v : V) : Prop := ∃ t x due, v = .ref t ∧ H t = some (.tup [x, .str due]) ∧ KRow D H x due
theorem RowK.same {D : Addr} {H H' : Hp} {v : V} (s : Same H H') : RowK D H v → RowK D H' v := fun ⟨t, x, due, e, h, k⟩ => ⟨t, x, due, e, s _ _ h, k.same s⟩
theorem RowK.keepP {D a : Addr} {H H' : Hp} {v : V} (hp : PurseAt H a) (k : Keep a H H') : RowK D H v → RowK D H' v := fun ⟨t, x, due, e, h, r⟩ => ⟨t, x, due, e, k _ _ (no_purse' hp h fun _ z => by cases z) h, r.keepP hp k⟩
theorem row_tok {D : Addr} {H : Hp} {x due : Str} (h : (decide (x.length ≤ 1000) && isTok (cp x) && decide (kindOf x = due)) = true) : KRow D H (.str x) due := by
  simp only [Bool.and_eq_true, decide_eq_true_eq] at h
  exact ⟨.str x h.1.1, .inl ⟨x, rfl, h.1.2, h.2.symm⟩⟩
theorem row_no {D : Addr} {H : Hp} {x : Str} (h : (decide (x.length ≤ 1000) && !isTok (cp x)) = true) : KRow D H (.str x) (Str.ofString "") := by
  simp only [Bool.and_eq_true, decide_eq_true_eq, Bool.not_eq_true'] at h
  exact ⟨.str x h.1, .inr ⟨rfl, h.2⟩⟩
section
variable {K : PySem.W.Frag} {D0 : Addr} {J : It} {G : Hp → Prop}
/-- [(x, due) for x in xs] -/
theorem lc_rowsK {xs : List V} (w : Walk J xs.length G (YAt xs)) {j : Nat} {σ : L2.St} {H1 : Hp} {D : Addr} {Qd : Hp → Prop} {due : Str} (nD : H1 D = none) (hG : ∀ H, Same H1 H → G H) (hσ : ∀ x : V, wipe ((wipe σ [j]).set j (some x)) [j] = wipe σ [j]) (hget : ∀ x : V, ((wipe σ [j]).set j (some x))[j]? = some (some x))
    (hl : xs.length ≤ 200) (hx : ∀ x ∈ xs, KRow D0 H1 x due) (hd : ∀ vs H', Same H1 H' → H' D = some (.lst vs) → vs.length ≤ xs.length → (∀ v ∈ vs, RowK D0 H' v) → Qd H') :
    ∃ W : Nat → Nat → Hp → Prop, (∃ m, W 0 m (upd H1 D (.lst []))) ∧ ∀ i m H, W i m H →
      (J.stop i H ∧ Qd H) ∨ (J.go i H ∧ ∃ Nx : Hp → Prop, (∀ H', Nx H' → ∃ m', m' < m ∧ W (i + 1) m' H') ∧ ∀ x H', J.yld i H x H' → gName j x (wipe σ [j]) H' fun σ2 H2 => wipe σ2 [j] = wipe σ [j] ∧ tYes σ2 H2 fun b H3 =>
        if b = true then tTup (tCons (tVar j) (tCons (tC (.str due)) tNil)) σ2 H3 fun y H4 => ∃ acc, H4 D = some (.lst acc) ∧ acc.length < sizeLine ∧ Nx (upd H4 D (.lst (acc ++ [y]))) else Nx H3) := by
  have s200 := sz 200 (by decide)
  refine lc_it w (fun i H => Same H1 H ∧ ∃ vs : List V, H D = some (.lst vs) ∧ vs.length ≤ i ∧ ∀ v ∈ vs, ∃ t x, v = .ref t ∧ H t = some (.tup [x, .str due]) ∧ x ∈ xs) ⟨same_upd nD, [], upd_same, Nat.le_refl _, fun v h => nomatch h⟩ (fun i H _ h => hG H h.1) ?_ ?_
  · rintro i x H H' hi ⟨s, vs, eD, lv, hv⟩ ⟨rfl, hy⟩
    have hxm : x ∈ xs := List.mem_of_getElem? hy
    refine ⟨hσ x, lc_turn ⟨x, hget x, sz 2 (by decide), fun t nt => ?_⟩⟩
    have st := same_upd (o := .tup [x, .str due]) nt
    have tD : t ≠ D := fun z => by rw [z, eD] at nt; cases nt
    refine ⟨vs, st _ _ eD, by omega, same_over nD (s.trans st), vs ++ [.ref t], upd_same, by rw [List.length_append]; simp; omega, fun v hvm => ?_⟩
    rw [List.mem_append, List.mem_singleton] at hvm
    rcases hvm with h | rfl
    · obtain ⟨t2, x2, e, h2, h3⟩ := hv v h
      refine ⟨t2, x2, e, ?_, h3⟩
      have : t2 ≠ D := fun z => by rw [z, eD] at h2; cases h2
      rw [upd_ne this]
      exact st _ _ h2
    · exact ⟨t, x, rfl, by rw [upd_ne tD]; exact upd_same, hxm⟩
  · rintro H ⟨s, vs, eD, lv, hv⟩
    refine hd vs H s eD lv fun v h => ?_
    obtain ⟨t, x, e, h2, h3⟩ := hv v h
    exact ⟨t, x, due, e, h2, (hx x h3).same s⟩
end
end K2

set_option Elab.async false
set_option linter.all false
set_option maxRecDepth 100000
set_option maxHeartbeats 8000000
/-! k03: the rows of the edges -/
namespace K2
open PySem PySem.Spec PyProof.Rows L2 EL LW ND
open Ln (L isTok isWord isNum isQuoted)
abbrev sEdges : Stmt := topS 88
abbrev nEg : List Str := ["_law_rows", "_law_some", "_law_word_here", "_law_number", "_law_sign", "_law_value"]
theorem scEdges : FnScope nEg [] (defScope sEdges) := ⟨rfl, rfl, rfl, by decide +kernel, rfl, by decide +kernel, by decide +kernel⟩
def tStrs3 : List Str → TA
  | [] => tNil
  | y :: ys => tCons (tC (.str y)) (tStrs3 ys)
def tPairs3 : List (Str × Str) → TA
  | [] => tNil
  | r :: rs => tCons (tTup (tCons (tC (.str r.1)) (tCons (tC (.str r.2)) tNil))) (tPairs3 rs)
theorem strs3_run {σ : L2.St} {H : Hp} : ∀ {ys : List Str} {Q : List V → Hp → Prop}, Q (ys.map V.str) H → tStrs3 ys σ H Q
  | [], _, h => h
  | y :: ys, Q, h => strs3_run (ys := ys) (Q := fun xs H2 => Q (.str y :: xs) H2) h
/-- an expression that gives a thing, the heap grown -/
def Gv (D : Addr) (σ : L2.St) (due : Str) (te : TE) : Prop := ∀ H Q, (∀ v H', Same H H' → KRow D H' v due → Q v H') → te σ H Q
def Gvs (D : Addr) (σ : L2.St) (due : Str) (n : Nat) (ta : TA) : Prop := ∀ H Q, (∀ vs H', Same H H' → vs.length = n → (∀ v ∈ vs, KRow D H' v due) → Q vs H') → ta σ H Q
theorem Gvs.nil {D : Addr} {σ : L2.St} {due : Str} : Gvs D σ due 0 tNil := fun H Q q => q [] H (Same.refl H) rfl fun v h => nomatch h
theorem Gvs.cons {D : Addr} {σ : L2.St} {due : Str} {n : Nat} {te : TE} {ta : TA} (h : Gv D σ due te) (t : Gvs D σ due n ta) : Gvs D σ due (n + 1) (tCons te ta) := fun H Q q =>
  h H _ fun v H1 s1 hv => t H1 _ fun vs H2 s2 hl hvs => q (v :: vs) H2 (s1.trans s2) (by rw [List.length_cons, hl]) fun u hu => by
    rcases List.mem_cons.mp hu with rfl | hu
    · exact hv.same s2
    · exact hvs u hu
/-- an expression that gives a list of such -/
def GL (R : Hp → V → Prop) (σ : L2.St) (H : Hp) (n : Nat) (te : TE) : Prop := ∀ Q : VK, (∀ a vs H', Same H H' → H' a = some (.lst vs) → vs.length ≤ n → (∀ v ∈ vs, R H' v) → Q (.ref a) H') → te σ H Q
theorem GL.var {R : Hp → V → Prop} {σ : L2.St} {H : Hp} {n i : Nat} {a : Addr} {vs : List V} (h : σ[i]? = some (some (.ref a))) (e : H a = some (.lst vs)) (hl : vs.length ≤ n) (hv : ∀ v ∈ vs, R H v) : GL R σ H n (tVar i) := fun Q q => ⟨_, h, q a vs H (Same.refl H) e hl hv⟩
theorem GL.cat {R : Hp → V → Prop} {σ : L2.St} {H : Hp} {n m : Nat} {te tl : TE} (mono : ∀ H H' v, Same H H' → R H v → R H' v) (hz : n + m ≤ 1000) (h1 : GL R σ H n te) (h2 : ∀ H1, Same H H1 → GL R σ H1 m tl) : GL R σ H (n + m) (tOp rCat te tl) := fun Q q =>
  h1 _ fun a vs H1 s1 e1 l1 p1 => h2 H1 s1 _ fun b us H2 s2 e2 l2 p2 => ⟨a, b, vs, us, rfl, rfl, s2 _ _ e1, e2, Nat.le_trans (by omega : _ ≤ 1000) (sz 1000 (by decide)), fun p np => by
    have s3 := same_upd (o := .lst (vs ++ us)) np
    refine q p _ _ ((s1.trans s2).trans s3) upd_same (by rw [List.length_append]; omega) fun v hv => ?_
    rcases List.mem_append.mp hv with h | h
    · exact mono _ _ v (s2.trans s3) (p1 v h)
    · exact mono _ _ v s3 (p2 v h)⟩
theorem GL.lst {D : Addr} {σ : L2.St} {H : Hp} {due : Str} {n : Nat} {ta : TA} (hz : n ≤ 1000) (h : Gvs D σ due n ta) : GL (fun H v => KRow D H v due) σ H n (tLst ta) := fun Q q =>
  h H _ fun vs H1 s1 hl hv => ⟨by rw [hl]; exact sz _ (by omega), fun p np => q p vs _ (s1.trans (same_upd np)) upd_same (by omega) fun v h => (hv v h).same (same_upd np)⟩
theorem rowK_mono (D : Addr) : ∀ H H' v, Same H H' → RowK D H v → RowK D H' v := fun _ _ _ s h => h.same s
theorem kRow_mono (D : Addr) (due : Str) : ∀ H H' v, Same H H' → KRow D H v due → KRow D H' v due := fun _ _ _ s h => h.same s
section
variable {D : Addr} {σ : L2.St}
abbrev Nul : Str := Str.ofString ""
theorem gv_str {x : Str} (h : (decide (x.length ≤ 1000) && !isTok (cp x)) = true) : Gv D σ Nul (tC (.str x)) := fun H Q q => q _ H (Same.refl H) (row_no h)
theorem gvs_strs : ∀ {ys : List Str}, ys.all (fun x => decide (x.length ≤ 1000) && !isTok (cp x)) = true → Gvs D σ Nul ys.length (tStrs3 ys)
  | [], _ => Gvs.nil
  | y :: ys, h => by
    rw [List.all_cons, Bool.and_eq_true] at h
    exact Gvs.cons (gv_str h.1) (gvs_strs h.2)
theorem gv_val {v : V} (h : ∀ H, Desc D H v) (hn : ofS isTok v = false) : Gv D σ Nul (tC v) := fun H Q q => q _ H (Same.refl H) ⟨h H, .inr ⟨rfl, hn⟩⟩
theorem gv_neg {i : Int} : Gv D σ Nul (tUn (rU fun i => .int (-i)) (tC (.int i))) := fun H Q q => ⟨i, rfl, q _ H (Same.refl H) ⟨.int _, .inr ⟨rfl, rfl⟩⟩⟩
theorem gv_lst {ys : List Str} (hl : ys.length ≤ 100) : Gv D σ Nul (tLst (tStrs3 ys)) := fun H Q q => strs3_run ⟨by rw [List.length_map]; exact sz _ (by omega), fun p np =>
  q _ _ (same_upd np) ⟨.lst upd_same ⟨by rw [List.length_map]; exact hl, fun y hy => by obtain ⟨x, _, rfl⟩ := List.mem_map.mp hy; exact ⟨x, rfl⟩⟩, .inr ⟨rfl, rfl⟩⟩⟩
theorem gv_tup {ys : List Str} (hl : ys.length ≤ 100) : Gv D σ Nul (tTup (tStrs3 ys)) := fun H Q q => strs3_run ⟨by rw [List.length_map]; exact sz _ (by omega), fun p np =>
  q _ _ (same_upd np) ⟨.tup upd_same ⟨by rw [List.length_map]; exact hl, fun y hy => by obtain ⟨x, _, rfl⟩ := List.mem_map.mp hy; exact ⟨x, rfl⟩⟩, .inr ⟨rfl, rfl⟩⟩⟩
theorem gv_nest {ys : List Str} (hl : ys.length ≤ 100) : Gv D σ Nul (tLst (tCons (tLst (tStrs3 ys)) tNil)) := fun H Q q => strs3_run ⟨by rw [List.length_map]; exact sz _ (by omega), fun c nc => ⟨sz 1 (by decide), fun p np => by
  have s1 := same_upd (o := .lst (ys.map V.str)) nc
  have s2 := same_upd (o := .lst [V.ref c]) np
  exact q _ _ (s1.trans s2) ⟨.nest upd_same (s2 _ _ upd_same) ⟨by rw [List.length_map]; exact hl, fun y hy => by obtain ⟨x, _, rfl⟩ := List.mem_map.mp hy; exact ⟨x, rfl⟩⟩, .inr ⟨rfl, rfl⟩⟩⟩⟩
theorem gv_d0 : Gv D σ Nul tDNewK := fun H Q q p np => q _ _ (same_upd np) ⟨.dict upd_same (Nat.zero_le _) fun kv h => (nomatch h), .inr ⟨rfl, rfl⟩⟩
theorem gv_d1 {x : Str} {i : Int} : Gv D σ Nul (tDisp [(tC (.str x), tC (.int i))]) := fun H Q q p np => by
  refine ⟨upd_same, [(Sum.inr x, V.int i)], rfl, (show 1 ≤ 15 by decide), ?_⟩
  have e : mergeK [] [((Sum.inr x : Key), V.int i)] = [(Sum.inr x, V.int i)] := rfl
  rw [e]
  refine q _ _ (fun b o hb => ?_) ⟨.dict upd_same (show 1 ≤ 100 by decide) fun kv h => ?_, .inr ⟨rfl, rfl⟩⟩
  · have := ne_of_none hb np
    rw [upd_ne this, upd_ne this]
    exact hb
  · rw [List.mem_singleton.mp h]
    refine ⟨⟨i, rfl⟩, ?_⟩
    unfold valV
    rw [List.find?_cons_of_pos (by simp)]
    rfl
end
theorem edEq_of {P : Program} {w : World} {D G : Addr} {H : Hp} {a : Addr} {fs : List Fm} {hard : List Str} (h : EditAt P w D G H a fs hard) : EdEq D H a := by
  obtain ⟨dx, l1, l2, g, ys, e, e1, hp, e2, _⟩ := h
  refine ⟨dx, l1, l2, g, ys, _, e, e1, e2, fun y hy => ?_, fun z hz => ?_⟩
  · obtain ⟨i, hi⟩ := List.mem_iff_getElem?.mp hy
    obtain ⟨f, _, b, _, _, eb, _⟩ := prs_get hp hi
    exact ⟨b, eb⟩
  · obtain ⟨x, _, rfl⟩ := List.mem_map.mp hz
    exact ⟨x, rfl⟩
theorem sound_nil : Sound [] [] := ⟨by decide, fun f h => (nomatch h), List.nodup_nil, fun k i j h => (nomatch h), fun q h => (nomatch h), fun t h => (nomatch h), fun t h => (nomatch h), fun p h => (nomatch h)⟩
theorem fresh_same {a dx : Addr} {H H' : Hp} {o1 o2 : HO} (na : H a = none) (ndx : H dx = none) (k : Keep a (upd (upd H dx o1) a o2) H') : Same H H' := fun b o hb => by
  have h1 := ne_of_none hb na
  have h2 := ne_of_none hb ndx
  exact k b o h1 (by rw [upd_ne h1, upd_ne h2]; exact hb)
section
variable {P : Program} {w : World} {K : PySem.W.Frag} {mg : Str → Option Value} {base : Heap} {D G : Addr} {σ : L2.St}
theorem gv_ed : Gv D σ Nul (tMake D (spEdit P w D G) [] E0 (tCons (tLst tNil) (tCons (tLst tNil) tNil))) := fun H Q q => ⟨Nat.zero_le _, fun l1 n1 => ⟨Nat.zero_le _, fun l2 n2 => fun a dx na ndx hne => by
  have s1 := same_upd (o := .lst []) n1
  have s2 := same_upd (o := .lst []) n2
  have e1 := s2 _ _ (upd_same (H := H) (a := l1) (o := .lst []))
  have e2 : (upd (upd H l1 (.lst [])) l2 (.lst [])) l2 = some (.lst []) := upd_same
  generalize upd (upd H l1 (.lst [])) l2 (.lst []) = H2 at *
  have up : ∀ {b : Addr} {o : HO}, H2 b = some o → (upd (upd H2 dx (.own a)) a (.ins D dx [])) b = some o := fun {b o} hb => by
    rw [upd_ne (ne_of_none hb na), upd_ne (ne_of_none hb ndx)]
    exact hb
  refine ⟨a, dx, l1, l2, [], [], [], rfl, upd_same, up e1, .nil, up e2, by decide, fun x h => (nomatch h), List.nodup_nil, sound_nil, fun H' k ed => ⟨rfl, ?_⟩⟩
  exact q _ _ ((s1.trans s2).trans (fresh_same na ndx k)) ⟨.ed (edEq_of ed.at), .inr ⟨rfl, rfl⟩⟩⟩⟩
/-! ### rows by a comprehension -/
theorem GL.lcT {ys : List Str} {j : Nat} {H : Hp} {due : Str} (hσ : ∀ x : V, wipe ((wipe σ [j]).set j (some x)) [j] = wipe σ [j]) (hget : ∀ x : V, ((wipe σ [j]).set j (some x))[j]? = some (some x)) (hl : ys.length ≤ 200) (h : ys.all (fun x => decide (x.length ≤ 1000) && isTok (cp x) && decide (kindOf x = due)) = true) :
    GL (RowK D) σ H ys.length (tLc (iTup K (tTup (tStrs3 ys))) (gName j) tYes (tTup (tCons (tVar j) (tCons (tC (.str due)) tNil))) [j]) := fun Q q =>
  strs3_run ⟨by rw [List.length_map]; exact sz _ (by omega), fun p np => ⟨p, rfl, ⟨_, SqT.of upd_same⟩, fun E nE => by
    have s1 := same_upd (o := .tup (ys.map V.str)) np
    refine lc_rowsK (D0 := D) (due := due) (xs := ys.map V.str) walk_tup nE (fun H2 s2 => SqT.of (s2 _ _ upd_same)) hσ hget (by rw [List.length_map]; exact hl) (fun x hx => ?_) fun vs H2 s2 e2 l2 hv => q E vs H2 (s1.trans s2) e2 (by rw [List.length_map] at l2; exact l2) hv
    obtain ⟨z, hz, rfl⟩ := List.mem_map.mp hx
    exact row_tok (List.all_eq_true.mp h z hz)⟩⟩
theorem GL.lcS {x : Str} {j : Nat} {H : Hp} {due : Str} (hσ : ∀ x : V, wipe ((wipe σ [j]).set j (some x)) [j] = wipe σ [j]) (hget : ∀ x : V, ((wipe σ [j]).set j (some x))[j]? = some (some x)) (hl : x.length ≤ 200) (h : x.cps.toList.all (fun c => isTok [c] && decide (kindOf ⟨#[c]⟩ = due)) = true) :
    GL (RowK D) σ H x.length (tLc (iList K (tCB rListS (tCons (tC (.str x)) tNil))) (gName j) tYes (tTup (tCons (tVar j) (tCons (tC (.str due)) tNil))) [j]) := fun Q q =>
  ⟨x, rfl, sz _ (by omega), fun p np => ⟨p, rfl, ⟨_, SqL.of upd_same⟩, fun E nE => by
    have s1 := same_upd (o := .lst (signsOf x)) np
    have hlen : (signsOf x).length = x.length := by unfold signsOf; rw [List.length_map, Array.length_toList]; rfl
    refine lc_rowsK (D0 := D) (due := due) (xs := signsOf x) walk_list nE (fun H2 s2 => SqL.of (s2 _ _ upd_same)) hσ hget (by omega) (fun y hy => ?_) fun vs H2 s2 e2 l2 hv => q E vs H2 (s1.trans s2) e2 (by omega) hv
    obtain ⟨c, hc, rfl⟩ := List.mem_map.mp hy
    refine row_tok ?_
    have := List.all_eq_true.mp h c hc
    simp only [Bool.and_eq_true, decide_eq_true_eq] at this ⊢
    exact ⟨⟨by show 1 ≤ 1000; decide, this.1⟩, this.2⟩⟩⟩
theorem GL.lcL {i : Nat} {a : Addr} {xs : List V} {j : Nat} {H : Hp} {due : Str} (hi : σ[i]? = some (some (.ref a))) (e : H a = some (.lst xs)) (hσ : ∀ x : V, wipe ((wipe σ [j]).set j (some x)) [j] = wipe σ [j]) (hget : ∀ x : V, ((wipe σ [j]).set j (some x))[j]? = some (some x)) (hl : xs.length ≤ 200) (h : ∀ x ∈ xs, KRow D H x due) :
    GL (RowK D) σ H xs.length (tLc (iList K (tVar i)) (gName j) tYes (tTup (tCons (tVar j) (tCons (tC (.str due)) tNil))) [j]) := fun Q q =>
  ⟨_, hi, a, rfl, ⟨_, SqL.of e⟩, fun E nE =>
    lc_rowsK (D0 := D) (due := due) (xs := xs) walk_list nE (fun H2 s2 => SqL.of (s2 _ _ e)) hσ hget hl h fun vs H2 s2 e2 l2 hv => q E vs H2 s2 e2 l2 hv⟩
theorem GL.pairs {n : Nat} : ∀ {ps : List (Str × Str)} {H : Hp} {Q : List V → Hp → Prop}, ps.all (fun r => decide (r.1.length ≤ 1000) && isTok (cp r.1) && decide (kindOf r.1 = r.2)) = true → (∀ vs H', Same H H' → vs.length = ps.length → (∀ v ∈ vs, RowK D H' v) → Q vs H') → tPairs3 ps σ H Q
  | [], H, Q, _, q => q [] H (Same.refl H) rfl fun v h => nomatch h
  | r :: ps, H, Q, h, q => by
    rw [List.all_cons, Bool.and_eq_true] at h
    refine ⟨sz 2 (by decide), fun t nt => GL.pairs (n := n) (ps := ps) h.2 fun vs H2 s2 l2 hv => ?_⟩
    have s1 := same_upd (o := .tup [.str r.1, .str r.2]) nt
    refine q (.ref t :: vs) H2 (s1.trans s2) (by rw [List.length_cons, List.length_cons, l2]) fun v hvm => ?_
    rcases List.mem_cons.mp hvm with rfl | hvm
    · exact ⟨t, _, _, rfl, s2 _ _ upd_same, row_tok h.1⟩
    · exact hv v hvm
theorem GL.lstP {ps : List (Str × Str)} {H : Hp} (hl : ps.length ≤ 200) (h : ps.all (fun r => decide (r.1.length ≤ 1000) && isTok (cp r.1) && decide (kindOf r.1 = r.2)) = true) : GL (RowK D) σ H ps.length (tLst (tPairs3 ps)) := fun Q q =>
  GL.pairs (n := 0) h fun vs H1 s1 l1 hv => ⟨by rw [l1]; exact sz _ (by omega), fun p np => q p vs _ (s1.trans (same_upd np)) upd_same (by omega) fun v h => (hv v h).same (same_upd np)⟩
def w0 : List Str := ["a", "z", "zz", "abcdefgh", "if", "then"]
def n1 : List Str := ["0", "1", "9", "10", "90", "12345678", "99999999"]
def p2 : List (Str × Str) := [("(", "open"), (")", "close"), ("'a", "quoted"), ("'zzzzzzzz", "quoted"), ("'if", "quoted")]
def s0 : List Str := ["", " ", "abcdefghi", "A", "aB", "a1", "1a", "00", "01", "000", "123456789", "((", "()", "'", "''", "''a", "'1", "a'"]
def s1 : List Str := ["'abcdefghi", "'A", "_", "+-", "==", "#", "$", "\"", "\\", "`", "\n", "a\n", " a", "a ", "-1", "+1", "a b"]
/-- the rows of the edges -/
def spEdges (D : Addr) : Sp := fun vs H Q _ => vs = [] ∧ ∀ R ws H', Same H H' → H' R = some (.lst ws) → ws.length ≤ 200 → (∀ v ∈ ws, RowK D H' v) → Q (.ref R) H'
theorem ok_edges3 {f fE : Addr} {fd dE : FuncData} (F : Fun K "_law_edges" "_law_edges" sEdges f fd) (ZM : Mk K D fE) (GE : FnOk P w K mg base CX0 9 fE dE ["self", "forms", "hard"] (spEdit P w D G)) (bE : Binds K dE ["self", "forms", "hard"] []) (gE : mg "Edition" = some (.ref D)) (mli : mg "list" = none) :
    FnOk P w K mg base CX0 11 f fd [] (spEdges D) := by
  refine F.ok scEdges (fun vs H Q E h => ?_) (fun cdv A outer s H vs Q E hr h => ?_)
  · rw [h.1]
    rfl
  · obtain ⟨rfl, q⟩ := h
    have nd := scEdges.nd
    have rE := hr
    refine ⟨_, pss_cons (ps_setLc (i := 0) (own := [("_law_word_here", 2)]) (g := gName 2) (tt := tYes) rfl nd rfl rfl (sw_true rfl rfl rfl (by decide +kernel)) (pi_tup (pe_tup (show PA _ _ (tStrs3 w0) from (pa_cons pe_str (pa_cons pe_str (pa_cons pe_str (pa_cons pe_str (pa_cons pe_str (pa_cons pe_str pa_nil))))))))) (blkOk_by (own := [("_law_word_here", 2)]) (N := nEg) (sc := defScope sEdges) (by decide +kernel)) (fun _ _ _ _ _ => pg_name (i := 2) nd rfl (Or.inl rfl)) (fun _ _ _ _ _ => pts_nil) (fun _ _ _ _ _ => pe_tup (pa_cons (pv 2) (pa_cons pe_str pa_nil))))
      (pss_cons (ps_set (i := 0) nd rfl (.inl rfl) (pe_op op_cat (pv 0) (pe_lc (own := [("_law_number", 3)]) (g := gName 3) (tt := tYes) rfl nd (pi_tup (pe_tup (show PA _ _ (tStrs3 n1) from (pa_cons pe_str (pa_cons pe_str (pa_cons pe_str (pa_cons pe_str (pa_cons pe_str (pa_cons pe_str (pa_cons pe_str pa_nil)))))))))) (blkOk_by (own := [("_law_number", 3)]) (N := nEg) (sc := defScope sEdges) (by decide +kernel)) (fun _ _ _ _ _ => pg_name (i := 3) nd rfl (Or.inl rfl)) (fun _ _ _ _ _ => pts_nil) (fun _ _ _ _ _ => pe_tup (pa_cons (pv 3) (pa_cons pe_str pa_nil))))))
      (pss_cons (ps_set (i := 0) nd rfl (.inl rfl) (pe_op op_cat (pv 0) (pe_lst (show PA _ _ (tPairs3 p2) from (pa_cons (pe_tup (pa_cons pe_str (pa_cons pe_str pa_nil))) (pa_cons (pe_tup (pa_cons pe_str (pa_cons pe_str pa_nil))) (pa_cons (pe_tup (pa_cons pe_str (pa_cons pe_str pa_nil))) (pa_cons (pe_tup (pa_cons pe_str (pa_cons pe_str pa_nil))) (pa_cons (pe_tup (pa_cons pe_str (pa_cons pe_str pa_nil))) pa_nil)))))))))
      (pss_cons (ps_set (i := 0) nd rfl (.inl rfl) (pe_op op_cat (pv 0) (pe_lc (own := [("_law_sign", 4)]) (g := gName 4) (tt := tYes) rfl nd (pi_list (pe_callTy (call_listS rfl) (by rfl) mli boot_list (pa_cons pe_str pa_nil))) (blkOk_by (own := [("_law_sign", 4)]) (N := nEg) (sc := defScope sEdges) (by decide +kernel)) (fun _ _ _ _ _ => pg_name (i := 4) nd rfl (Or.inl rfl)) (fun _ _ _ _ _ => pts_nil) (fun _ _ _ _ _ => pe_tup (pa_cons (pv 4) (pa_cons pe_str pa_nil))))))
      (pss_cons (ps_set (i := 1) nd rfl (.inl rfl) (pe_lst (show PA _ _ (tStrs3 s0) from (pa_cons pe_str (pa_cons pe_str (pa_cons pe_str (pa_cons pe_str (pa_cons pe_str (pa_cons pe_str (pa_cons pe_str (pa_cons pe_str (pa_cons pe_str (pa_cons pe_str (pa_cons pe_str (pa_cons pe_str (pa_cons pe_str (pa_cons pe_str (pa_cons pe_str (pa_cons pe_str (pa_cons pe_str (pa_cons pe_str pa_nil)))))))))))))))))))))
      (pss_cons (ps_set (i := 1) nd rfl (.inl rfl) (pe_op op_cat (pv 1) (pe_lst (show PA _ _ (tStrs3 s1) from (pa_cons pe_str (pa_cons pe_str (pa_cons pe_str (pa_cons pe_str (pa_cons pe_str (pa_cons pe_str (pa_cons pe_str (pa_cons pe_str (pa_cons pe_str (pa_cons pe_str (pa_cons pe_str (pa_cons pe_str (pa_cons pe_str (pa_cons pe_str (pa_cons pe_str (pa_cons pe_str (pa_cons pe_str pa_nil)))))))))))))))))))))
      (pss_cons (ps_set (i := 1) nd rfl (.inl rfl) (pe_op op_cat (pv 1) (pe_lst (pa_cons pe_int (pa_cons pe_int (pa_cons pe_int (pa_cons (pe_un un_neg pe_int) (pa_cons pe_bl (pa_cons pe_bl (pa_cons pe_non (pa_cons (pe_lst (pa_cons pe_str pa_nil)) (pa_cons (pe_tup (pa_cons pe_str pa_nil)) (pa_cons (pe_lst pa_nil) (pa_cons (pe_tup pa_nil) (pa_cons pe_dnewK (pa_cons (pe_disp (pps_cons pe_str pe_int pps_nil) rfl rfl (by simp) (by decide)) (pa_cons (pe_lst (pa_cons pe_str pa_nil)) (pa_cons (pe_lst (pa_cons (pe_lst (pa_cons pe_str pa_nil)) pa_nil)) (pa_cons (pe_make ZM GE rE (by rfl) gE bE .nil pass0 (pa_cons (pe_lst pa_nil) (pa_cons (pe_lst pa_nil) pa_nil))) pa_nil)))))))))))))))))))
      (pss_one (ps_ret (pe_op op_cat (pv 0) (pe_lc (own := [("_law_value", 5)]) (g := gName 5) (tt := tYes) rfl nd (pi_list (pv 1)) (blkOk_by (own := [("_law_value", 5)]) (N := nEg) (sc := defScope sEdges) (by decide +kernel)) (fun _ _ _ _ _ => pg_name (i := 5) nd rfl (Or.inl rfl)) (fun _ _ _ _ _ => pts_nil) (fun _ _ _ _ _ => pe_tup (pa_cons (pv 5) (pa_cons pe_str pa_nil))))))))))))), ?_⟩
    have go : ∀ {t : TE} {u : TS} {De : Ends} {σ : L2.St} {i : Nat} {H : Hp}, t σ H (fun v H' => u De (σ.set i (some v)) H') → tSeq (tAsg t (gName i)) u De σ H := fun h => h
    refine go ?_
    refine GL.lcT (D := D) (ys := w0) (due := "word") (fun _ => rfl) (fun _ => rfl) (by decide) (by decide +kernel) _ fun R0 v0 H0 t0 e0 l0 p0 => ?_
    refine go ?_
    refine GL.cat (n := 6) (m := 7) (rowK_mono D) (by decide) (GL.var rfl e0 l0 p0) (fun H1 _ => GL.lcT (D := D) (ys := n1) (due := "number") (fun _ => rfl) (fun _ => rfl) (by decide) (by decide +kernel)) _ fun R1 v1 H1 t1 e1 l1 p1 => ?_
    refine go ?_
    refine GL.cat (n := 13) (m := 5) (rowK_mono D) (by decide) (GL.var rfl e1 l1 p1) (fun H2 _ => GL.lstP (D := D) (ps := p2) (by decide) (by decide +kernel)) _ fun R2 v2 H2 t2 e2 l2 p2' => ?_
    refine go ?_
    refine GL.cat (n := 18) (m := 22) (rowK_mono D) (by decide) (GL.var rfl e2 l2 p2') (fun H3 _ => GL.lcS (D := D) (x := "+-*/<>=.,;:!?&|@^~[]{}") (due := "sign") (fun _ => rfl) (fun _ => rfl) (by decide) (by decide +kernel)) _ fun R3 v3 H3 t3 e3 l3 p3 => ?_
    refine go ?_
    refine GL.lst (D := D) (due := Nul) (n := 18) (by decide) (gvs_strs (ys := s0) (by decide +kernel)) _ fun S0 u0 H4 t4 f0 m0 k0 => ?_
    refine go ?_
    refine GL.cat (n := 18) (m := 17) (kRow_mono D Nul) (by decide) (GL.var rfl f0 m0 k0) (fun H5 _ => GL.lst (D := D) (due := Nul) (n := 17) (by decide) (gvs_strs (ys := s1) (by decide +kernel))) _ fun S1 u1 H5 t5 f1 m1 k1 => ?_
    refine go ?_
    refine GL.cat (n := 35) (m := 16) (kRow_mono D Nul) (by decide) (GL.var rfl f1 m1 k1) (fun H6 _ => GL.lst (D := D) (due := Nul) (n := 16) (by decide)
      (.cons (gv_val (fun _ => .int 0) rfl) (.cons (gv_val (fun _ => .int 1) rfl) (.cons (gv_val (fun _ => .int 7) rfl) (.cons gv_neg (.cons (gv_val (fun _ => .bl true) rfl) (.cons (gv_val (fun _ => .bl false) rfl) (.cons (gv_val (fun _ => .non) rfl)
      (.cons (gv_lst (ys := ["a"]) (by decide)) (.cons (gv_tup (ys := ["a"]) (by decide)) (.cons (gv_lst (ys := []) (by decide)) (.cons (gv_tup (ys := []) (by decide)) (.cons gv_d0 (.cons gv_d1 (.cons (gv_lst (ys := ["("]) (by decide)) (.cons (gv_nest (ys := ["a"]) (by decide)) (.cons gv_ed .nil))))))))))))))))) _ fun S2 u2 H6 t6 f2 m2 k2 => ?_
    have t36 := (t4.trans t5).trans t6
    refine GL.cat (n := 40) (m := u2.length) (rowK_mono D) (by omega) (GL.var rfl (t36 _ _ e3) l3 fun v hv => (p3 v hv).same t36) (fun H7 t7 => GL.lcL (D := D) (due := Nul) rfl (t7 _ _ f2) (fun _ => rfl) (fun _ => rfl) (by omega) fun x hx => (k2 x hx).same t7) _ fun R4 v4 H7 t7 e7 l7 p7 => ?_
    exact q R4 v4 H7 (((((t0.trans t1).trans t2).trans t3).trans t36).trans t7) e7 (by omega) p7
end
end K2

set_option Elab.async false
set_option linter.all false
set_option maxRecDepth 100000
set_option maxHeartbeats 8000000
/-! k03: calls by keyword; the kinds are right -/
namespace K2
open PySem PySem.Spec PyProof.Rows L2 EL LW ND
open Ln (L isTok isWord isNum isQuoted)
section
variable {X : Cx} {CX : CXT} {k : Nat} {f : Addr} {fd : FuncData} {ps ks : List Str} {sp : Sp} {E : XK} {x : Str} {p pos : Pos} {kws : List Keyword} {tk : TA} {g : List Value → List Value → List Value} {gV : List V → List V → List V}
/-- f(k = v, ..) -/
theorem pe_callK0 (F : FnOk X.prog X.w X.K X.mg X.base CX k f fd ps sp) (hr : Room k X.A) (hg : Gl X x) (hm : X.mg x = some (.ref f)) (hk : PySem.W.keepIn X.K (.ref f) = true) (hb : KBinds X.K fd ps ks g gV) (hx : Passes CX X E)
    (hkw : PK X kws tk) (hall : (backToKw pos (keywordEach kws X.env)).all (·.1.isSome) = true := by rfl) (hks : (backToKw pos (keywordEach kws X.env)).filterMap (·.1) = ks := by rfl)
    (hdb : (x == ("__debug__" : Str)) = false := by decide)
    (hpl : ((backTo pos (starEach [] X.env)).any (·.1) || (backToKw pos (keywordEach kws X.env)).any (·.1.isNone)) = false := by rfl) :
    PE X (.Call (.Name x p) [] kws pos) (tCallK sp gV E tNil tk) := by
  refine ⟨fun pins s σ H Q I h => ?_⟩
  refine wpAny_Call_Name_kw (ld_glob I hg hm ?_ hdb)
  refine PySem.W.callWith_KW0 (h₀ := X.base) I.ok.mod.kin hk hall ?_ hpl
  refine thn (hkw.run pos pins s σ H _ I h) fun ws s2 ⟨zs, H2, I2, rz, q2⟩ => ⟨I2.kIn, ?_⟩
  rw [hks]
  exact run_fnk (us := []) (vs := []) F hr hb hx I2 .nil rz q2
end
section
variable {X : Cx} {a b c : Expr} {ta tb tc : TT} {pos : Pos}
/-- a if c else b, as a test -/
def tIfT (tc ta tb : TT) : TT := fun σ H Q => tc σ H fun k H1 => if k = true then ta σ H1 Q else tb σ H1 Q
theorem pt_ifE (hc : PT X c tc) (ha : PT X a ta) (hb : PT X b tb) : PT X (.IfExp c a b pos) (tIfT tc ta tb) := by
  refine ⟨fun pins s σ H Q I h => PyProof.Rows.isTrue_IfExp (thn (hc.run pins s σ H _ I h) fun k s1 ⟨H1, I1, q1⟩ => ?_)⟩
  cases k with
  | true => exact ha.run pins s1 σ H1 Q I1 q1
  | false => exact hb.run pins s1 σ H1 Q I1 q1
end
def only {α : Type} : List α → List α → List α
  | [], [w] => [w]
  | _, _ => []
def only2 {α : Type} : List α → List α → List α
  | [], [w, u] => [w, u]
  | _, _ => []
/-- f(n = v) -/
theorem kb_one {K : PySem.W.Frag} {n qual : Str} {x : Str} {st : Stmt} {f : Addr} {fd : FuncData} (F : Fun K x qual st f fd)
    (h : ∀ (kV doc pm : Value) (an : Option Addr) (cdv ct u : Value), bindArgs (PySem.W.fnOf x qual (defArgs st) (defBody st) (defScope st) .none kV doc pm an cdv ct) ⟨[], [(n, u)]⟩ = pure [(n, u)]) :
    KBinds K fd [n] [n] only only := by
  obtain ⟨oc, od, kV, doc, pm, an, cdv, ct, osl, rfl, lk, hcd⟩ := F.ex
  refine ⟨fun s us ws _ hl => ?_, fun r rz => ?_⟩
  · match us, ws, hl with
    | [], [u], _ => exact .of_eq (h kV doc pm an cdv ct u)
    | [], [], hl => cases hl
    | [], _ :: _ :: _, hl => cases hl
    | _ :: _, _, hl => cases hl
  · cases r with
    | cons _ _ => exact .nil
    | nil =>
      cases rz with
      | nil => exact .nil
      | cons a b =>
        cases b with
        | nil => exact .cons a .nil
        | cons _ _ => exact .nil
theorem kb_two {K : PySem.W.Frag} {n m qual : Str} {x : Str} {st : Stmt} {f : Addr} {fd : FuncData} (F : Fun K x qual st f fd)
    (h : ∀ (kV doc pm : Value) (an : Option Addr) (cdv ct u z : Value), bindArgs (PySem.W.fnOf x qual (defArgs st) (defBody st) (defScope st) .none kV doc pm an cdv ct) ⟨[], [(n, u), (m, z)]⟩ = pure [(n, u), (m, z)]) :
    KBinds K fd [n, m] [n, m] only2 only2 := by
  obtain ⟨oc, od, kV, doc, pm, an, cdv, ct, osl, rfl, lk, hcd⟩ := F.ex
  refine ⟨fun s us ws _ hl => ?_, fun r rz => ?_⟩
  · match us, ws, hl with
    | [], [u, z], _ => exact .of_eq (h kV doc pm an cdv ct u z)
    | [], [], hl => cases hl
    | [], [_], hl => cases hl
    | [], _ :: _ :: _ :: _, hl => cases hl
    | _ :: _, _, hl => cases hl
  · cases r with
    | cons _ _ => exact .nil
    | nil =>
      cases rz with
      | nil => exact .nil
      | cons a b =>
        cases b with
        | nil => exact .nil
        | cons b c =>
          cases c with
          | nil => exact .cons a (.cons b .nil)
          | cons _ _ => exact .nil
/-- a def at hand -/
structure Fx (P : Program) (w : World) (K : PySem.W.Frag) (mg : Str → Option Value) (base : Heap) (CX : CXT) (k : Nat) (x : Str) (ps : List Str) (sp : Sp) where
  f : Addr
  fd : FuncData
  kp : PySem.W.keepIn K (.ref f) = true
  g : mg x = some (.ref f)
  b : Binds K fd ps []
  G : FnOk P w K mg base CX k f fd ps sp
abbrev sKinds : Stmt := topS 89
abbrev nKi : List Str := ["_law_rows", "_law_value", "_law_due", "_law_told"]
theorem scKinds : FnScope nKi ["_law_rows"] (defScope sKinds) := ⟨rfl, rfl, rfl, by decide +kernel, rfl, by decide +kernel, by decide +kernel⟩
section
variable {P : Program} {w : World} {K : PySem.W.Frag} {mg : Str → Option Value} {base : Heap} {D G CT : Addr}
def spKinds (D : Addr) : Sp := fun vs H Q _ => ∃ (R : Addr) (ws : List V), vs = [.ref R] ∧ H R = some (.lst ws) ∧ (∀ v ∈ ws, RowK D H v) ∧ ∀ H', Same H H' → Q (.bl true) H'
theorem ne_str (x y : Str) : (!decide (V.str x = V.str y)) = !decide (x = y) := by rw [dec_s2]
theorem ok_kinds {f : Addr} {fd : FuncData} (F : Fun K "_law_kinds_right" "_law_kinds_right" sKinds f fd) (Z : EdK K D)
    (tok : Fx P w K mg base CX0 4 "is_token" ["value"] (spTok K isTok)) (tokK : KBinds K tok.fd ["value"] ["value"] only only)
    (knd : Fx P w K mg base (L2.CX P w) 6 "kind" ["token"] (spKind K CT)) (kndK : KBinds K knd.fd ["token"] ["token"] only only)
    (exa : Fx P w K mg base CX0 8 "_law_exact" ["_law_one", "_law_other"] (spXE D 8))
    (cal : Fx P w K mg base CX0 8 "_law_called" ["_law_way", "_law_value", "_law_many"] (spCalled P w K D G))
    (ver : Fx P w K mg base CX0 9 "_law_very" ["_law_told", "_law_word_here", "_law_thing"] (spVery3 K D))
    (bas : Fx P w K mg base CX0 7 "_law_based" ["_law_value"] (spBased K)) :
    FnOk P w K mg base CX0 10 f fd ["_law_rows"] (spKinds D) := by
  refine F.ok scKinds (fun vs H Q E h => ?_) (fun cdv A outer s H vs Q E hr h => ?_)
  · obtain ⟨R, ws, rfl, _⟩ := h
    rfl
  · obtain ⟨R, ws, rfl, hR, hrow, q⟩ := h
    have nd := scKinds.nd
    have r8 := hr.mono (by decide : 8 ≤ 9)
    have r7 := hr.mono (by decide : 7 ≤ 9)
    have r6 := hr.mono (by decide : 6 ≤ 9)
    have r4 := hr.mono (by decide : 4 ≤ 9)
    have r1 := hr.mono (by decide : 1 ≤ 9)
    refine ⟨_, pss_cons (ps_for PassesOwn.never rfl (pi_list (pv 0)) (pg_tup (by rfl) (pgs_cons (pg_name (i := 1) nd rfl (.inl rfl)) (pgs_cons (pg_name (i := 2) nd rfl (.inl rfl)) pgs_nil)))
        (pss_cons (ps_if (PW.pt (pw_or (pt_not (pt_val (pe_call exa.G r8 (by rfl) exa.g exa.kp exa.b .nil pass0 (pa_cons (pe_call tok.G r4 (by rfl) tok.g tok.kp tok.b .nil pass0 (pa_cons (pv 1) pa_nil)) (pa_cons (pe_cmpR op_ne (pv 2) pe_str (nomark _)) pa_nil)))))
            (pw_or1 (pt_not (pt_val (pe_call exa.G r8 (by rfl) exa.g exa.kp exa.b .nil pass0 (pa_cons (pe_callK0 tok.G r4 (by rfl) tok.g tok.kp tokK pass0 (pk_cons (pv 1) pk_nil)) (pa_cons (pe_cmpR op_ne (pv 2) pe_str (nomark _)) pa_nil)))))))) (pss_one (ps_ret pe_bl)) pss_nil)
        (pss_cons (ps_set (i := 3) nd rfl (.inl rfl) (pe_call cal.G r8 (by rfl) cal.g cal.kp cal.b .nil pass0 (pa_cons pe_str (pa_cons (pv 1) (pa_cons pe_int pa_nil)))))
        (pss_cons (ps_if (pt_ifE (pt_cmpR op_eq (pv 2) pe_str (nomark _)) (pt_not (pt_val (pe_call ver.G hr (by rfl) ver.g ver.kp ver.b .nil pass0 (pa_cons (pv 3) (pa_cons pe_str (pa_cons (pv 1) pa_nil)))))) (pt_not (pt_val (pe_call exa.G r8 (by rfl) exa.g exa.kp exa.b .nil pass0 (pa_cons (pv 3) (pa_cons (pe_tup (pa_cons pe_str (pa_cons (pv 2) pa_nil))) pa_nil))))))
            (pss_one (ps_ret pe_bl)) pss_nil)
        (pss_one (ps_if (PW.pt (pw_or (pt_cmpR op_ne (pe_ix ix_tup (pe_call bas.G r7 (by rfl) bas.g bas.kp bas.b .nil pass0 (pa_cons (pv 1) pa_nil)) pe_int (fun _ _ => rfl)) (pe_ifExp (pt_cmpR op_eq (pv 2) pe_str (nomark _)) pe_str pe_str) (nomark _))
            (pw_or1 (PW.pt (pw_and (pt_cmpR op_ne (pv 2) pe_str (nomark _)) (pw_and1 (pt_cmpR op_ne (pe_callK0 knd.G r6 (by rfl) knd.g knd.kp kndK passN (pk_cons (pv 1) pk_nil)) (pv 2) (nomark _)))))))) (pss_one (ps_ret pe_bl)) pss_nil))))))
      (pss_one (ps_ret (pe_cmpR (op_eqG (rcG_tup mon_flat eqG_flat) r1) (pe_call bas.G r7 (by rfl) bas.g bas.kp bas.b .nil pass0 (pa_cons pe_non pa_nil)) (pe_tup (pa_cons pe_str (pa_cons pe_bl pa_nil))) (nomark _)))), ?_⟩
    refine ⟨_, rfl, R, rfl, ⟨_, SqL.of hR⟩, for_list (xs := ws) (fun i σ H' => Same H H' ∧ ∃ y1 y2 y3 : Option V, σ = [some (.ref R), y1, y2, y3]) ⟨Same.refl H, _, _, _, rfl⟩ (fun i σ H' _ h => SqL.of (h.1 _ _ hR)) ?_ ?_⟩
    · rintro i x σ H1 hx ⟨s1, y1, y2, y3, rfl⟩
      obtain ⟨t, xv, due, rfl, ht, hrw⟩ := (hrow x (List.mem_of_getElem? hx)).same s1
      obtain ⟨hd, hk⟩ := hrw
      have hpl := hd.plain Z
      have hb : ofS isTok xv = !decide (due = Str.ofString "") := by
        rcases hk with ⟨z, rfl, h1, h2⟩ | ⟨h1, h2⟩
        · rw [decide_eq_false (by rw [h2]; exact kind_ne z)]
          exact h1
        · rw [h2, decide_eq_true h1, Bool.not_true]
      have hne : V.bl (!decide (V.str due = V.str "")) = .bl (ofS isTok xv) := by rw [dec_s2, hb]
      refine ⟨t, _, rfl, .inl (.inl ht), rfl, _, _, rfl, _, _, rfl, rfl, ?_⟩
      refine ⟨xv, rfl, xv, rfl, hpl, fun H2 s2 => ⟨.str due, rfl, rfl, ?_⟩⟩
      rw [hne]
      refine ⟨_, _, rfl, atom_eqe (.bl _) 7, fun H3 s3 => ⟨true, rfl, ?_⟩⟩
      refine iteF ⟨xv, rfl, xv, rfl, hpl.same (s2.trans s3), fun H4 s4 => ⟨.str due, rfl, rfl, ?_⟩⟩
      rw [hne]
      refine ⟨_, _, rfl, atom_eqe (.bl _) 7, fun H5 s5 => ⟨true, rfl, iteF ?_⟩⟩
      have s25 := ((s2.trans s3).trans s4).trans s5
      have s15 := s1.trans s25
      refine ⟨xv, rfl, xv, .int 0, .inl ⟨rfl, hpl.same s25, fun z e hz H6 t6 s6 e6 => ?_, fun hz H6 t6 s6 e6 => ?_⟩⟩
      · have hbt : ofS isTok xv = true := by rw [e]; exact hz
        have hdn : due ≠ Str.ofString "" := fun z2 => by rw [hbt, decide_eq_true z2] at hb; cases hb
        have hkd : due = kindOf z := by
          rcases hk with ⟨z3, e3, _, h2⟩ | ⟨h1, _⟩
          · rw [e] at e3
            cases e3
            exact h2
          · exact absurd h1 hdn
        refine ⟨.str due, rfl, rfl, _, rfl, ?_⟩
        rw [dec_s2, decide_eq_false hdn]
        refine iteF ⟨.ref t6, rfl, .str due, rfl, sz 2 (by decide), fun t7 n7 => ?_⟩
        have s7 := same_upd (o := .tup [.str "told", .str due]) n7
        refine ⟨.ref t6, .ref t7, rfl, .inr (.inl ⟨t6, t7, _, _, rfl, rfl, .inr ⟨s7 _ _ e6, upd_same⟩, .cons (atom_eqe (.str _) 6) (.cons (by rw [← hkd]; exact atom_eqe (.str _) 6) .nil), by simp⟩), fun H8 s8 => ⟨true, rfl, iteF ?_⟩⟩
        have s28 := ((s25.trans s6).trans s7).trans s8
        refine ⟨xv, rfl, xv, rfl, hpl.same s28, fun z4 e4 hz4 H9 t9 s9 e9 => ?_, fun hz4 => by rw [hbt] at hz4; cases hz4⟩
        refine ⟨t9, _, 0, .str "told", rfl, rfl, SqT.of e9, atI_nat (j := 0) rfl, .str due, rfl, rfl, _, rfl, ?_⟩
        rw [dec_s2, decide_eq_false hdn]
        refine iteF ⟨rfl, _, rfl, ?_⟩
        rw [decide_eq_true rfl]
        refine iteF ⟨.str due, rfl, rfl, _, rfl, ?_⟩
        rw [dec_s2, decide_eq_false hdn]
        refine iteT ⟨xv, rfl, xv, rfl, hpl.same (s28.trans s9), fun z5 e5 hz5 H10 s10 => ⟨.str due, rfl, rfl, _, rfl, ?_⟩, fun hz4 => by rw [hbt] at hz4; cases hz4⟩
        have ez : z5 = z := by
          rw [e] at e5
          cases e5
          rfl
        rw [ez, ← hkd, decide_eq_true rfl]
        exact iteF ⟨(s1.trans (s28.trans s9)).trans s10, _, _, _, rfl⟩
      · have hde : due = Str.ofString "" := by
          rcases hk with ⟨z3, e3, h1, _⟩ | ⟨h1, _⟩
          · rw [e3] at hz
            have h1' : ofS isTok (.str z3) = true := h1
            rw [h1'] at hz
            cases hz
          · exact h1
        refine ⟨.str due, rfl, rfl, _, rfl, ?_⟩
        rw [dec_s2, decide_eq_true hde]
        refine iteT ⟨.ref t6, rfl, xv, rfl, t6, "token", xv, rfl, e6, ((hd.same s25).same s6).thing Z, fun H8 s8 => ⟨true, rfl, iteF ?_⟩⟩
        have s28 := (s25.trans s6).trans s8
        refine ⟨xv, rfl, xv, rfl, hpl.same s28, fun z4 e4 hz4 => ?_, fun _ H9 t9 s9 e9 => ?_⟩
        · rw [e4] at hz
          have h1' : ofS isTok (.str z4) = true := hz4
          rw [h1'] at hz
          cases hz
        refine ⟨t9, _, 0, .str "refused", rfl, rfl, SqT.of e9, atI_nat (j := 0) rfl, .str due, rfl, rfl, _, rfl, ?_⟩
        rw [dec_s2, decide_eq_true hde]
        refine iteT ⟨rfl, _, rfl, ?_⟩
        rw [decide_eq_true rfl]
        refine iteF ⟨.str due, rfl, rfl, _, rfl, ?_⟩
        rw [dec_s2, decide_eq_true hde]
        exact iteF (iteF ⟨s1.trans (s28.trans s9), _, _, _, rfl⟩)
    · rintro σ H1 ⟨s1, y1, y2, y3, rfl⟩
      refine ⟨.non, rfl, (Desc.non (D := D)).plain Z, fun x z => (nomatch z), fun _ H2 t2 s2 e2 => ⟨sz 2 (by decide), fun t3 n3 => ?_⟩⟩
      have s3 := same_upd (o := .tup [.str "refused", .bl true]) n3
      refine ⟨⟨t2, t3, _, _, rfl, rfl, SqT.of (s3 _ _ e2), SqT.of upd_same, .cons ⟨rfl, rfl, ?_⟩ (.cons ⟨rfl, rfl, rfl⟩ .nil)⟩, fun H4 x4 => q _ (((s1.trans s2).trans s3).trans x4)⟩
      decide +kernel
end
end K2

set_option Elab.async false
set_option linter.all false
set_option maxRecDepth 100000
set_option maxHeartbeats 8000000
/-! k03: lists of texts as data; drawn tokens -/
namespace K2
open PySem PySem.Spec PyProof.Rows L2 EL LW ND
open Ln (L isLet isFig isTok isNum isWord isSign isQuoted isRun)
theorem sQ : (Str.ofString "'") = S [39] := cp_inj (by decide +kernel)
def dS (t : L) : PyData := .str (S t)
theorem dS_all {K : PySem.W.Frag} {H : Hp} : ∀ ts : List L, DpAll K H (vl ts) (ts.map dS)
  | [] => .nil
  | t :: ts => .cons (.str (S t)) (dS_all ts)
theorem eqv_texts : ∀ ts us : List L, PyData.eqvAll (ts.map dS) (us.map dS) = decide (ts = us)
  | [], [] => rfl
  | [], _ :: _ => rfl
  | _ :: _, [] => rfl
  | t :: ts, u :: us => by
    show (PyData.eqv (dS t) (dS u) && PyData.eqvAll (ts.map dS) (us.map dS)) = _
    rw [eqv_texts ts us]
    have : PyData.eqv (dS t) (dS u) = decide (t = u) := by
      show (S t == S u) = _
      rw [Bool.eq_iff_iff, beq_iff_eq, decide_eq_true_iff]
      exact ⟨fun e => by have := congrArg cp e; simpa [cp_S] using this, fun e => by rw [e]⟩
    rw [this, Bool.eq_iff_iff]
    simp
theorem depth_data : ∀ ts : List L, PyData.depthAll (ts.map dS) = 0
  | [] => rfl
  | t :: ts => by
    show max (PyData.depth (dS t)) (PyData.depthAll (ts.map dS)) = 0
    rw [depth_data ts]
    rfl
def Asc (t : L) : Prop := ∀ c ∈ t, c < 128
theorem lay_texts : ∀ ts : List L, (∀ t ∈ ts, Asc t) → PyData.canLayAll0 (ts.map dS) = true
  | [], _ => rfl
  | t :: ts, h => by
    show (PyData.canLay0 (dS t) && PyData.canLayAll0 (ts.map dS)) = true
    rw [lay_texts ts fun u hu => h u (List.mem_cons_of_mem _ hu), Bool.and_true]
    show ((S t).cps.all fun c => decide (c < 0x110000)) = true
    rw [← Array.all_toList]
    rw [List.all_eq_true]
    intro c hc
    have := h t List.mem_cons_self c hc
    exact decide_eq_true (by omega)
theorem shaped_texts (ts : List L) (h : ∀ t ∈ ts, Asc t) : SeqAt.shaped (.list (ts.map dS)) = true := by
  unfold SeqAt.shaped
  have h1 : PyData.canLay0 (.list (ts.map dS)) = true := lay_texts ts h
  have h2 : PyData.depth (.list (ts.map dS)) = 1 := by
    show PyData.depthAll (ts.map dS) + 1 = 1
    rw [depth_data]
  rw [h1, h2]
  rfl
theorem vl_app (a b : List L) : vl (a ++ b) = vl a ++ vl b := List.map_append
theorem run_tok {p : Nat → Bool} {t : L} (h1 : 1 ≤ t.length) (h2 : t.length ≤ 8) (h3 : ∀ d ∈ t, p d = true) : isRun p t = true := by
  unfold isRun
  rw [decide_eq_true h1, decide_eq_true h2, List.all_eq_true.mpr h3]
  rfl
theorem word_tok {t : L} (h : isWord t = true) : isTok t = true := by
  unfold isTok
  rw [h]
  simp
theorem num_tok {t : L} (h : isNum t = true) : isTok t = true := by
  unfold isTok
  rw [h]
  simp
theorem quoted_tok {t : L} (h : isQuoted t = true) : isTok t = true := by
  unfold isTok
  rw [h]
  simp
theorem letters_word {x : Str} (h1 : 1 ≤ x.length) (h8 : x.length ≤ 8) (hl : Letters x) : isWord (cp x) = true :=
  run_tok (by rw [cp_len]; exact h1) (by rw [cp_len]; exact h8) fun d hd => by
    obtain ⟨a, b⟩ := hl d hd
    unfold isLet
    rw [decide_eq_true a, decide_eq_true b]
    rfl
theorem aD_of {H : Hp} {a D : Addr} {n : Nat} (h : Purse H a n) (nD : H D = none) : a ≠ D := fun e => by
  obtain ⟨p', q', t', i', e', _⟩ := h
  rw [← e, e'] at nD
  cases nD
def brS : Str := Str.ofString "()"
theorem sign_tok : ∀ c ∈ Ln.signs, isTok [c] = true := by decide +kernel
theorem br_tok : ∀ c ∈ brS.cps.toList, isTok [c] = true := by decide +kernel
theorem tok_asc {t : L} (h : isTok t = true) : Asc t := by
  obtain ⟨ht, _⟩ := Ln.tok_of h
  have hl : ∀ c, isLet c = true → c < 128 := fun c h => by unfold isLet at h; simp at h; omega
  have hf : ∀ c, isFig c = true → c < 128 := fun c h => by unfold isFig at h; simp at h; omega
  intro d hd
  cases ht with
  | word h1 h2 =>
    rcases List.mem_cons.mp hd with rfl | h
    · exact hl _ h1
    · exact hl _ (h2 d h)
  | num h1 h2 =>
    rcases List.mem_cons.mp hd with rfl | h
    · exact hf _ h1
    · exact hf _ (h2 d h)
  | quoted h1 h2 =>
    rcases List.mem_cons.mp hd with rfl | h
    · decide
    · rcases List.mem_cons.mp h with rfl | h
      · exact hl _ h1
      · exact hl _ (h2 d h)
  | @sign c h1 h2 h3 h4 =>
    rw [List.mem_singleton.mp hd]
    unfold isTok at h
    simp only [Bool.or_eq_true] at h
    have nw : isWord [c] = false := by unfold isWord isRun; simp [h1]
    have nn : isNum [c] = false := by unfold isNum isRun; simp [h2]
    have nq : isQuoted [c] = false := by unfold isQuoted; simp [h3]
    rw [nw, nn, nq] at h
    simp only [Bool.false_eq_true, or_false] at h
    rcases h with (h | h) | h
    · have : c = 40 := by simpa using h
      omega
    · have : c = 41 := by simpa using h
      omega
    · unfold isSign at h
      simp only [Bool.and_eq_true] at h
      have hc : Ln.signs.contains c = true := by simpa using h.2
      have := List.contains_iff_mem.mp hc
      have hall : ∀ c ∈ Ln.signs, c < 128 := by decide +kernel
      exact hall c this
theorem vl_inj : ∀ {ts us : List L}, vl ts = vl us → ts = us
  | [], [], _ => rfl
  | [], _ :: _, h => by simp [vl] at h
  | _ :: _, [], h => by simp [vl] at h
  | t :: ts, u :: us, h => by
    have h' : V.str (S t) :: vl ts = V.str (S u) :: vl us := h
    injection h' with h1 h2
    injection h1 with h1
    have := congrArg cp h1
    rw [cp_S, cp_S] at this
    rw [this, vl_inj h2]
theorem mem_cutV {xs : List V} {lo hi : Option Int} {x : V} (h : x ∈ cutV xs lo hi) : x ∈ xs := List.mem_of_mem_drop (List.mem_of_mem_take h)
theorem paired_app {α β : Type} {F : α → β → Prop} : ∀ {a b : List α} {c d : List β}, Paired F a c → Paired F b d → Paired F (a ++ b) (c ++ d)
  | _, _, _, _, .nil, h => h
  | _, _, _, _, .cons x t, h => .cons x (paired_app t h)
theorem vl_atoms (ts : List L) : ∀ x ∈ vl ts, ∃ m, Atom x m := fun x h => by
  obtain ⟨t, _, rfl⟩ := List.mem_map.mp h
  exact ⟨_, .str _⟩
theorem vl_plain {K : PySem.W.Frag} {H : Hp} {ts : List L} (h9 : ∀ t ∈ ts, t.length ≤ 9) : ∀ x ∈ vl ts, Plain K H x := fun x h => by
  obtain ⟨t, ht, rfl⟩ := List.mem_map.mp h
  exact .inl ⟨S t, rfl, by rw [S_len]; have := h9 t ht; omega⟩
abbrev sTokD3 : Stmt := topS 90
theorem scTokD3 : FnScope ["_law_purse_here", "_law_way"] ["_law_purse_here"] (defScope sTokD3) := ⟨rfl, rfl, rfl, by decide +kernel, rfl, by decide +kernel, by decide +kernel⟩
def digs : List Str := ["0", "7", "10", "12345678"]
theorem digs_ok : ∀ x ∈ digs, isTok (cp x) = true := by decide +kernel
section
variable {P : Program} {w : World} {K : PySem.W.Frag} {mg : Str → Option Value} {base : Heap}
/-- a drawn token -/
def spDrawn3 : Sp := fun vs H Q _ => ∃ (a : Addr) (n : Nat), vs = [.ref a] ∧ Purse H a n ∧ n < 2 ^ 29 ∧ ∀ (x : Str) H', isTok (cp x) = true → Keep a H H' → Purse H' a (n + 20) → Q (.str x) H'
theorem ok_tokD3 {f : Addr} {fd : FuncData} (F : Fun K "_law_token" "_law_token" sTokD3 f fd) (draw : Fx P w K mg base CX0 2 "_law_draw" ["_law_purse_here", "_law_many"] spDraw) (word : Fx P w K mg base CX0 3 "_law_word" ["_law_purse_here"] spWord)
    (one : Fx P w K mg base CX0 3 "_law_one_of" ["_law_purse_here", "_law_some"] (spOneOf K)) (mli : mg "list" = none) : FnOk P w K mg base CX0 4 f fd ["_law_purse_here"] spDrawn3 := by
  refine F.ok scTokD3 (fun vs H Q E h => ?_) (fun cdv A outer s H vs Q E hr h => ?_)
  · obtain ⟨a, n, rfl, _⟩ := h
    rfl
  · obtain ⟨a, n, rfl, hP, hn, q⟩ := h
    have nd := scTokD3.nd
    have hr2 := hr.mono (by decide : 2 ≤ 3)
    refine ⟨_, pss_cons (ps_set (i := 1) nd rfl (.inl rfl) (pe_call draw.G hr2 (by rfl) draw.g draw.kp draw.b .nil pass0 (pa_cons (pv 0) (pa_cons pe_int pa_nil))))
      (pss_cons (ps_if (pt_cmpR op_lt (pv 1) pe_int (nomark _)) (pss_one (ps_ret (pe_op op_add_str (pe_ix ix_list (pe_lst (pa_cons pe_str (pa_cons pe_str (pa_cons pe_str pa_nil)))) (pv 1) (fun _ _ => rfl)) (pe_call word.G hr (by rfl) word.g word.kp word.b .nil pass0 (pa_cons (pv 0) pa_nil))))) pss_nil)
      (pss_cons (ps_if (pt_cmpR op_eq (pv 1) pe_int (nomark _)) (pss_one (ps_ret (pe_call one.G hr (by rfl) one.g one.kp one.b .nil pass0 (pa_cons (pv 0) (pa_cons (pe_lst (pa_cons pe_str (pa_cons pe_str (pa_cons pe_str (pa_cons pe_str pa_nil))))) pa_nil))))) pss_nil)
      (pss_one (ps_ret (pe_ifExp (pt_cmpR op_eq (pv 1) pe_int (nomark _)) (pe_call one.G hr (by rfl) one.g one.kp one.b .nil pass0 (pa_cons (pv 0) (pa_cons (pe_callTy (call_listS rfl) (by rfl) mli boot_list (pa_cons pe_str pa_nil)) pa_nil))) (pe_call one.G hr (by rfl) one.g one.kp one.b .nil pass0 (pa_cons (pv 0) (pa_cons (pe_callTy (call_listS rfl) (by rfl) mli boot_list (pa_cons pe_str pa_nil)) pa_nil)))))))), ?_⟩
    refine ⟨.ref a, rfl, a, 6, n, rfl, hP, by omega, by decide, by decide, fun r1 H1 h10 h11 k1 P1 => ?_⟩
    have pick : ∀ (z : Str), (∀ c ∈ z.cps.toList, isTok [c] = true) → 0 < z.length → z.length ≤ 100 → rListS [.str z] H1 fun v H2 => spOneOf K [.ref a, v] H2 Q E0 := by
      intro z hz z0 z1
      refine ⟨z, rfl, sz _ (by omega), fun p np => ?_⟩
      have s2 := same_upd (o := .lst (signsOf z)) np
      have ln : (signsOf z).length = z.length := by unfold signsOf; rw [List.length_map]; exact Array.length_toList ..
      refine ⟨a, p, signsOf z, n + 1, rfl, P1.same s2, by omega, SqL.of upd_same, fun e => aD_of P1 np e.symm, by omega, by omega, fun v H3 hv k3 P3 => ?_⟩
      obtain ⟨c, hc, rfl⟩ := List.mem_map.mp hv
      exact q _ _ (hz c hc) ((k1.trans s2.keep).trans k3) (P3.more (by omega))
    refine ⟨_, rfl, _, _, rfl, rfl, _, rfl, ite2 (fun c1 => ?_) (fun c1 => ?_)⟩
    · have c1' : r1 < 3 := of_decide_eq_true c1
      refine ⟨sz 3 (by decide), fun p np => ?_⟩
      have s1 := same_upd (o := .lst [.str "", .str "'", .str "'"]) np
      obtain ⟨j, hj, hj3⟩ : ∃ j : Nat, r1 = (j : Int) ∧ j < 3 := ⟨r1.toNat, by omega, by omega⟩
      subst hj
      obtain ⟨y, hy, hy2⟩ : ∃ y : Str, [V.str "", .str "'", .str "'"][j]? = some (.str y) ∧ (cp y = [] ∨ cp y = [39]) := by
        match j, hj3 with
        | 0, _ => exact ⟨_, rfl, .inl (by decide +kernel)⟩
        | 1, _ => exact ⟨_, rfl, .inr (by decide +kernel)⟩
        | 2, _ => exact ⟨_, rfl, .inr (by decide +kernel)⟩
      refine ⟨_, rfl, p, _, _, _, rfl, rfl, SqL.of upd_same, atI_nat (j := j) hy, ?_⟩
      refine ⟨.ref a, rfl, a, n + 1, rfl, P1.same s1, by omega, fun x H2 x1 x8 xl k2 P2 => ?_⟩
      have hw := letters_word x1 x8 xl
      refine ⟨y, x, rfl, rfl, ?_, q _ _ ?_ ((k1.trans s1.keep).trans k2) (P2.more (by omega))⟩
      · have l1 : y.length ≤ 1 := by
          rw [← cp_len]
          rcases hy2 with e | e <;> rw [e] <;> simp
        have := sz 100000 (Nat.le_refl _)
        omega
      · rw [cp_app]
        rcases hy2 with e | e <;> rw [e]
        · exact word_tok hw
        · refine quoted_tok ?_
          unfold isQuoted
          simpa using hw
    · refine ⟨_, rfl, rfl, _, rfl, ite2 (fun c2 => ?_) (fun c2 => ?_)⟩
      · refine ⟨.ref a, rfl, sz 4 (by decide), fun p np => ?_⟩
        have s1 := same_upd (o := .lst [.str "0", .str "7", .str "10", .str "12345678"]) np
        refine ⟨a, p, _, n + 1, rfl, P1.same s1, by omega, SqL.of upd_same, fun e => aD_of P1 np e.symm, by decide, by decide, fun v H3 hv k3 P3 => ?_⟩
        obtain ⟨x, hx, rfl⟩ : ∃ x, x ∈ digs ∧ v = .str x := by
          simp only [List.mem_cons, List.not_mem_nil, or_false] at hv
          rcases hv with rfl | rfl | rfl | rfl
          · exact ⟨_, by unfold digs; simp, rfl⟩
          · exact ⟨_, by unfold digs; simp, rfl⟩
          · exact ⟨_, by unfold digs; simp, rfl⟩
          · exact ⟨_, by unfold digs; simp, rfl⟩
        exact q _ _ (digs_ok x hx) ((k1.trans s1.keep).trans k3) (P3.more (by omega))
      · refine ⟨_, rfl, rfl, _, rfl, ite2 (fun c4 => ?_) (fun c4 => ?_)⟩
        · exact ⟨.ref a, rfl, pick brS br_tok (by decide) (by decide)⟩
        · exact ⟨.ref a, rfl, pick sgnS (fun c hc => sign_tok c (by have : sgnS.cps.toList = Ln.signs := by decide +kernel
                                                                    rw [this] at hc; exact hc)) (by decide) (by decide)⟩
end
end K2

set_option Elab.async false
set_option linter.all false
set_option maxRecDepth 100000
set_option maxHeartbeats 8000000
/-! k03: bare texts are right -/
namespace K2
open PySem PySem.Spec PyProof.Rows L2 EL LW ND
open Ln (L isLet isFig isTok isNum isWord isSign isQuoted isRun)
abbrev sUnmR : Stmt := topS 91
abbrev nUm : List Str := ["_law_purse_here", "_law_text", "_law_due", "_law_handed", "_law_told", "_law_bad", "_law_at", "_law_value", "_law_turn", "_law_token_here"]
theorem scUnmR : FnScope nUm ["_law_purse_here"] (defScope sUnmR) := ⟨rfl, rfl, rfl, by decide +kernel, rfl, by decide +kernel, by decide +kernel⟩
theorem vlE {D : Addr} {H : Hp} {k : Nat} {p p2 : Addr} {ts : List L} (hl : ts.length ≤ 1000) (e : H p = some (.lst (vl ts))) (e2 : H p2 = some (.lst (vl ts))) : EqE D H (k + 1) (.ref p) (.ref p2) :=
  .inr (.inl ⟨p, p2, _, _, rfl, rfl, .inl ⟨e, e2⟩, strs_refl fun y hy => by obtain ⟨t, _, rfl⟩ := List.mem_map.mp hy; exact ⟨_, rfl⟩, by unfold vl; rw [List.length_map]; omega⟩)
theorem tok_head {t : L} (h : isTok t = true) : ∃ c cs, t = c :: cs := by
  have := (Ln.tok_of h).1
  cases this <;> exact ⟨_, _, rfl⟩
theorem tok_quoted {t : L} (h : isTok t = true) : isQuoted t = decide (t.head? = some 39) := by
  rw [Bool.eq_iff_iff, decide_eq_true_iff]
  have ht := (Ln.tok_of h).1
  refine ⟨fun hq => ?_, fun hq => ?_⟩
  · unfold isQuoted at hq
    simp only [Bool.and_eq_true, beq_iff_eq] at hq
    cases t with
    | nil => cases hq.1
    | cons c cs => have := hq.1; simp at this; rw [this]; rfl
  · cases ht with
    | word h1 h2 => simp at hq; rw [hq] at h1; cases h1
    | num h1 h2 => simp at hq; rw [hq] at h1; cases h1
    | @quoted c cs h1 h2 =>
      have h' := h
      unfold isTok at h'
      have n1 : isWord (39 :: c :: cs) = false := by unfold isWord isRun; simp [show isLet 39 = false from by decide]
      have n2 : isNum (39 :: c :: cs) = false := by unfold isNum isRun; simp [show isFig 39 = false from by decide]
      have n3 : isSign (39 :: c :: cs) = false := by unfold isSign; simp
      rw [n1, n2, n3] at h'
      simpa using h'
    | sign h1 h2 h3 h4 => simp at hq; exact absurd hq h3
theorem bare_snoc (ts : List L) : bareOf (ts ++ [[39, 121]]) = bareOf ts ++ [[121]] := by
  unfold bareOf
  rw [List.filter_append, List.map_append]
  congr 1
theorem bare_asc {ts : List L} (h : ∀ t ∈ ts, Asc t) : ∀ t ∈ bareOf ts, Asc t := fun t ht => by
  obtain ⟨u, hu, rfl⟩ := List.mem_map.mp ht
  have := h u (List.mem_filter.mp hu).1
  split
  · exact fun c hc => this c (List.mem_of_mem_drop hc)
  · exact this
theorem bare_len' (ts : List L) : (bareOf ts).length ≤ ts.length := by
  have := bare_len ts ts.length
  rwa [List.take_length] at this
theorem S_dec (t : L) (x : Str) : decide (V.str (S t) = V.str x) = decide (t = cp x) := by
  rw [dec_s2, Bool.eq_iff_iff, decide_eq_true_iff, decide_eq_true_iff]
  exact ⟨fun h => by rw [← h, cp_S], fun h => by rw [h, S_cp]⟩
theorem eqv_self (us : List L) : PyData.eqv (.list (us.map dS)) (.list (us.map dS)) = true := by
  show PyData.eqvAll (us.map dS) (us.map dS) = true
  rw [eqv_texts, decide_eq_true rfl]
theorem vl_len (ts : List L) : (vl ts).length = ts.length := by unfold vl; rw [List.length_map]
def bads : List V := [.str "", .str "_", .str "A", .str "00", .int 7, .non, .str "'1", .bl true]
section
variable {P : Program} {w : World} {K : PySem.W.Frag} {mg : Str → Option Value} {base : Heap} {D G CX : Addr}
def spUnmR : Sp := fun vs H Q _ => ∃ (a : Addr) (n : Nat), vs = [.ref a] ∧ Purse H a n ∧ n < 2 ^ 20 ∧ ∀ H', Keep a H H' → Purse H' a (n + 2000) → Q (.bl true) H'
theorem ok_unmR {f : Addr} {fd : FuncData} (F : Fun K "_law_unmarked_right" "_law_unmarked_right" sUnmR f fd) (Z : EdK K D) (draw : Fx P w K mg base CX0 2 "_law_draw" ["_law_purse_here", "_law_many"] spDraw)
    (one : Fx P w K mg base CX0 3 "_law_one_of" ["_law_purse_here", "_law_some"] (spOneOf K)) (tkn : Fx P w K mg base CX0 4 "_law_token" ["_law_purse_here"] spDrawn3)
    (unm : Fx P w K mg base (L2.CX P w) 7 "unmarked" ["text"] (spUnm K CX)) (unmK : KBinds K unm.fd ["text"] ["text"] only only)
    (exa : Fx P w K mg base CX0 8 "_law_exact" ["_law_one", "_law_other"] (spXE D 8))
    (cal : Fx P w K mg base CX0 8 "_law_called" ["_law_way", "_law_value", "_law_many"] (spCalled P w K D G))
    (ver : Fx P w K mg base CX0 9 "_law_very" ["_law_told", "_law_word_here", "_law_thing"] (spVery3 K D))
    (mli : mg "list" = none) (mtu : mg "tuple" = none) (ml : mg "len" = none) (mr : mg "range" = none) : FnOk P w K mg base CX0 10 f fd ["_law_purse_here"] spUnmR := by
  refine F.ok scUnmR (fun vs H Q E h => ?_) (fun cdv A outer s H vs Q E hr h => ?_)
  · obtain ⟨a, n, rfl, _⟩ := h
    rfl
  · obtain ⟨a, n, rfl, hP, hn, q⟩ := h
    have nd := scUnmR.nd
    have r8 := hr.mono (by decide : 8 ≤ 9)
    have r7 := hr.mono (by decide : 7 ≤ 9)
    have r4 := hr.mono (by decide : 4 ≤ 9)
    have r3 := hr.mono (by decide : 3 ≤ 9)
    have r2 := hr.mono (by decide : 2 ≤ 9)
    refine ⟨_, pss_cons (ps_setLc (i := 1) (own := [("_law_turn", 8)]) (g := gName 8) (tt := tYes) rfl nd rfl rfl (sw_true rfl rfl rfl (by decide +kernel)) (pi_range1 rfl mr (pa_cons (pe_call draw.G r2 (by rfl) draw.g draw.kp draw.b .nil pass0 (pa_cons (pv 0) (pa_cons pe_int pa_nil))) pa_nil))
          (blkOk_by (own := [("_law_turn", 8)]) (N := nUm) (sc := defScope sUnmR) (by decide +kernel)) (fun _ _ _ _ _ => pg_name (i := 8) nd rfl (Or.inl rfl)) (fun _ _ _ _ _ => pts_nil) (fun _ _ _ _ _ => pe_call tkn.G r4 (by rfl) tkn.g tkn.kp tkn.b .nil pass0 (pa_cons (pv 0) pa_nil)))
      (pss_cons (ps_setLc (i := 2) (own := [("_law_token_here", 9)]) (g := gName 9) (tt := tAnd (tTest (tOp rNe (tVar 9) (tC (.str "(")))) (tTest (tOp rNe (tVar 9) (tC (.str ")"))))) rfl nd rfl rfl (sw_true rfl rfl rfl (by decide +kernel)) (pi_list (pv 1))
          (blkOk_by (own := [("_law_token_here", 9)]) (N := nUm) (sc := defScope sUnmR) (by decide +kernel)) (fun _ _ _ _ _ => pg_name (i := 9) nd rfl (Or.inl rfl)) (fun _ _ _ _ _ => pts_one (PW.pt (pw_and (pt_cmpR op_ne (pv 9) pe_str (nomark _)) (pw_and1 (pt_cmpR op_ne (pv 9) pe_str (nomark _))))))
          (fun _ _ _ _ _ => pe_ifExp (pt_cmpR op_eq (pe_ix ix_str (pv 9) pe_int (fun _ _ => rfl)) pe_str (nomark _)) (pe_slice sl_str (pv 9) (po_some pe_int) po_none) (pv 9)))
      (pss_cons (ps_set (i := 3) nd rfl (.inl rfl) (pe_callTy call_list_of (by rfl) mli boot_list (pa_cons (pv 1) pa_nil)))
      (pss_cons (ps_set (i := 4) nd rfl (.inl rfl) (pe_call unm.G r7 (by rfl) unm.g unm.kp unm.b .nil passN (pa_cons (pv 3) pa_nil)))
      (pss_cons (ps_if (PW.pt (pw_or (pt_not (pt_val (pe_call exa.G r8 (by rfl) exa.g exa.kp exa.b .nil pass0 (pa_cons (pv 4) (pa_cons (pv 2) pa_nil))))) (pw_or1 (pt_cmpR (op_neD hr.units) (pv 3) (pv 1) (nomark _))))) (pss_one (ps_ret pe_bl)) pss_nil)
      (pss_cons (ps_expr (pe_bm PySem.F.plainAttrs_list PySem.F.slot_list_append PySem.F.type_list_append mt_append (pv 4) (pa_cons pe_str pa_nil)))
      (pss_cons (ps_expr (pe_bm PySem.F.plainAttrs_list PySem.F.slot_list_append PySem.F.type_list_append mt_append (pv 3) (pa_cons pe_str pa_nil)))
      (pss_cons (ps_if (PW.pt (pw_or (pt_not (pt_val (pe_call exa.G r8 (by rfl) exa.g exa.kp exa.b .nil pass0 (pa_cons (pe_callK0 unm.G r7 (by rfl) unm.g unm.kp unmK passN (pk_cons (pv 1) pk_nil)) (pa_cons (pv 2) pa_nil)))))
          (pw_or1 (pt_cmpR (op_neD hr.units) (pe_call unm.G r7 (by rfl) unm.g unm.kp unm.b .nil passN (pa_cons (pv 3) pa_nil)) (pe_op op_cat (pv 2) (pe_lst (pa_cons pe_str pa_nil))) (nomark _))))) (pss_one (ps_ret pe_bl)) pss_nil)
      (pss_cons (ps_par (i := 5) (j := 6) rfl nd rfl rfl (by decide) rfl rfl (pa_cons (pe_call one.G r3 (by rfl) one.g one.kp one.b .nil pass0 (pa_cons (pv 0) (pa_cons (pe_lst (pa_cons pe_str (pa_cons pe_str (pa_cons pe_str (pa_cons pe_str (pa_cons pe_int (pa_cons pe_non (pa_cons (pe_lst (pa_cons pe_str pa_nil)) (pa_cons pe_str (pa_cons pe_bl pa_nil)))))))))) pa_nil)))
          (pa_cons (pe_call draw.G r2 (by rfl) draw.g draw.kp draw.b .nil pass0 (pa_cons (pv 0) (pa_cons (pe_op op_add (pe_callB call_len_seq (by rfl) ml PySem.boot_len (pa_cons (pv 1) pa_nil)) pe_int) pa_nil))) pa_nil)) (by rfl))
      (pss_cons (ps_for PassesOwn.never rfl (pi_tup (pe_tup (pa_cons (pe_op op_cat (pe_op op_cat (pe_slice sl_list (pv 1) po_none (po_some (pv 6))) (pe_lst (pa_cons (pv 5) pa_nil))) (pe_slice sl_list (pv 1) (po_some (pv 6)) po_none)) (pa_cons (pe_callTy call_tuple_of (by rfl) mtu boot_tuple (pa_cons (pv 1) pa_nil)) (pa_cons pe_str (pa_cons pe_non pa_nil)))))) (pg_name (i := 7) nd rfl (.inl rfl))
          (pss_one (ps_if (pt_not (pt_val (pe_call ver.G hr (by rfl) ver.g ver.kp ver.b .nil pass0 (pa_cons (pe_call cal.G r8 (by rfl) cal.g cal.kp cal.b .nil pass0 (pa_cons pe_str (pa_cons (pv 7) (pa_cons pe_int pa_nil)))) (pa_cons pe_str (pa_cons (pv 7) pa_nil)))))) (pss_one (ps_ret pe_bl)) pss_nil)))
      (pss_one (ps_ret pe_bl))))))))))), ?_⟩
    -- the text
    refine ⟨.ref a, rfl, a, 40, n, rfl, hP, by omega, by decide, by decide, fun r H1 h0 h1 k1 P1 => ⟨_, rfl, by show -(2 ^ 62) ≤ r; omega, by show r < 2 ^ 62; omega, fun D1 nD1 => ?_⟩⟩
    have aD1 := aD_of P1 nD1
    refine lc_range (lo := 0) (n := r.toNat) (fun i H' => ∃ ts : List L, ts.length = i ∧ (∀ t ∈ ts, isTok t = true) ∧ Keep a H1 H' ∧ H' D1 = some (.lst (vl ts)) ∧ Purse H' a (n + 1 + 20 * i)) ⟨[], rfl, by simp, (same_upd nD1).keep, upd_same, P1.same (same_upd nD1)⟩ ?_ ?_
    · rintro i H3 hi ⟨ts, el, hc, k3, eD, P3⟩
      refine ⟨rfl, lc_turn ?_⟩
      refine ⟨.ref a, rfl, a, n + 1 + 20 * i, rfl, P3, (by omega), fun x H4 hx k4 P4 => ⟨vl ts, k4 _ _ aD1.symm eD, ?_, ts ++ [cp x], ?_, ?_, ?_, ?_, ?_⟩⟩
      · unfold vl
        rw [List.length_map]
        exact Nat.lt_of_lt_of_le (by omega : _ < 100000) (sz _ (Nat.le_refl _))
      · rw [List.length_append, el]
        rfl
      · intro d hd'
        rw [List.mem_append, List.mem_singleton] at hd'
        rcases hd' with h | rfl
        · exact hc d h
        · exact hx
      · intro b o hb hbo
        rw [upd_ne (ne_of_none hbo nD1)]
        exact k4 _ _ hb (k3 _ _ hb hbo)
      · rw [upd_same, vl_app]
        show _ = some (HO.lst (vl ts ++ [V.str (S (cp x))]))
        rw [S_cp]
      · exact (P4.more (by omega)).keep keep_upd aD1
    rintro H2 ⟨ts, el, ht, k2, eT, P2⟩
    have hn59 : ts.length ≤ 40 := by omega
    have h9 : ∀ t ∈ ts, t.length ≤ 9 := fun t h => (Ln.tok_of (ht t h)).2
    have hasc : ∀ t ∈ ts, Asc t := fun t h => tok_asc (ht t h)
    have nlen : (vl ts).length = ts.length := by unfold vl; rw [List.length_map]
    -- what is due
    refine ⟨_, rfl, D1, rfl, ⟨_, SqL.of eT⟩, fun D2 nD2 => ?_⟩
    refine lc_list (xs := vl ts) (fun i H' => Same H2 H' ∧ H' D2 = some (.lst (vl (bareOf (ts.take i))))) ⟨same_upd nD2, upd_same⟩ (fun i H' _ h => SqL.of (h.1 _ _ eT)) ?_ ?_
    · rintro i x H3 hx ⟨s3, eD⟩
      unfold vl at hx
      rw [List.getElem?_map] at hx
      obtain ⟨t, htt, rfl⟩ := Option.map_eq_some_iff.mp hx
      have htk := ht t (List.mem_of_getElem? htt)
      obtain ⟨c, cs, etc⟩ := tok_head htk
      have h9t := h9 t (List.mem_of_getElem? htt)
      have hle := bare_len ts i
      have lacc : (vl (bareOf (ts.take i))).length < sizeLine := by
        rw [vl_len]
        exact Nat.lt_of_lt_of_le (by omega : _ < 100000) (sz _ (Nat.le_refl _))
      have e40 : cp (Str.ofString "(") = [40] := by decide +kernel
      have e41 : cp (Str.ofString ")") = [41] := by decide +kernel
      have hb : (t == [40] || t == [41]) = (decide (t = [40]) || decide (t = [41])) := by
        congr 1 <;> rw [Bool.eq_iff_iff, beq_iff_eq, decide_eq_true_iff]
      refine ⟨rfl, .str (S t), rfl, rfl, _, rfl, ?_⟩
      rw [S_dec, e40]
      by_cases c1 : t = [40]
      · rw [decide_eq_true c1]
        refine iteF (iteF ⟨s3, ?_⟩)
        rw [bare_step htt, hb, decide_eq_true c1, Bool.true_or, if_pos rfl, List.append_nil]
        exact eD
      rw [decide_eq_false c1]
      refine iteT ⟨.str (S t), rfl, rfl, _, rfl, ?_⟩
      rw [S_dec, e41]
      by_cases c2 : t = [41]
      · rw [decide_eq_true c2]
        refine iteF ⟨s3, ?_⟩
        rw [bare_step htt, hb, decide_eq_true c2, Bool.or_true, if_pos rfl, List.append_nil]
        exact eD
      rw [decide_eq_false c2]
      refine iteT ⟨.str (S t), rfl, S t, 0, c, rfl, rfl, by rw [S_len]; exact sz _ (by omega), ?_, rfl, _, rfl, ?_⟩
      · show atI (S t).cps.toList 0 = some c
        have : (cp (S t))[0]? = some c := by rw [cp_S, etc]; rfl
        exact atI_nat (j := 0) this
      have hbs := bare_step htt
      rw [hb, decide_eq_false c1, decide_eq_false c2, Bool.or_self, if_neg Bool.false_ne_true, tok_quoted htk] at hbs
      have ec : decide (V.str ⟨#[c]⟩ = V.str "'") = decide (t.head? = some 39) := by
        rw [dec_s2, etc, Bool.eq_iff_iff, decide_eq_true_iff, decide_eq_true_iff]
        refine ⟨fun h => ?_, fun h => ?_⟩
        · have := congrArg cp h
          rw [show cp (⟨#[c]⟩ : Str) = [c] from rfl, show cp (Str.ofString "'") = [39] from by decide +kernel] at this
          have hc : c = 39 := by injection this
          rw [hc]
          rfl
        · obtain rfl := Option.some.inj h
          exact cp_inj (by decide +kernel)
      rw [ec]
      have vapp1 : ∀ (l : List L) (u : L), vl (l ++ [u]) = vl l ++ [V.str (S u)] := fun l u => by rw [vl_app]; rfl
      by_cases c3 : t.head? = some 39
      · rw [decide_eq_true c3] at hbs ⊢
        rw [if_pos rfl] at hbs
        refine iteT ⟨_, rfl, 1, rfl, S t, rfl, by rw [S_len]; exact sz _ (by omega), _, eD, lacc, same_over nD2 s3, ?_⟩
        rw [upd_same, hbs, vapp1]
        have : cutS (S t) (some 1) none = S (t.drop 1) := cp_inj ((cut_drop (S t) 1).trans (by rw [cp_S, cp_S]))
        rw [this]
      · rw [decide_eq_false c3] at hbs ⊢
        rw [if_neg Bool.false_ne_true] at hbs
        refine iteF ⟨_, rfl, _, eD, lacc, same_over nD2 s3, ?_⟩
        rw [upd_same, hbs, vapp1]
    rintro H4 ⟨s4, eU⟩
    rw [nlen, List.take_length] at eU
    -- the copy, and what is told
    have txT : ∀ {p : Addr} {H6 : Hp} {us : List L}, H6 p = some (.lst (vl us)) → us.length ≤ 1000 → (∀ t ∈ us, isTok t = true) → TxV K H6 (.ref p) true := by
      intro p H6 us e hl hu
      have := vl_text (K := K) e hl fun t h => by have := (Ln.tok_of (hu t h)).2; omega
      rwa [List.all_eq_true.mpr hu] at this
    have big := sz 100000 (Nat.le_refl _)
    have lbu := bare_len' ts
    refine ⟨.ref D1, rfl, D1, vl ts, rfl, .inl (SqL.of (s4 _ _ eT)), fun hA nh => ?_⟩
    have s5 := same_upd (o := .lst (vl ts)) nh
    have s45 := s4.trans s5
    have e5H : (upd H4 hA (.lst (vl ts))) hA = some (.lst (vl ts)) := upd_same
    have e5T := s45 _ _ eT
    have e5U := s5 _ _ eU
    generalize upd H4 hA (.lst (vl ts)) = H5 at s5 s45 e5H e5T e5U ⊢
    refine ⟨.ref hA, rfl, .ref hA, true, rfl, txT e5H (by omega) ht, fun _ a1 ts1 w1 w2 _ _ D4 H6 s6 n6 e6 => ?_, fun z => Bool.noConfusion z⟩
    obtain rfl : ts1 = ts := by
      cases w1
      rw [w2] at e5H
      exact vl_inj (HO.lst.inj (Option.some.inj e5H))
    clear w1 w2
    refine ⟨.ref D4, rfl, .ref D2, rfl, .ref D4, .ref D2, rfl, vlE (k := 6) (by omega) e6 (s6 _ _ e5U), fun H7 s7 => ⟨true, rfl, iteF ?_⟩⟩
    have s57 := s6.trans s7
    refine ⟨.ref hA, rfl, .ref D1, rfl, .list (ts1.map dS), .list (ts1.map dS), .lst (SqL.of (s57 _ _ e5H)) (dS_all _), .lst (SqL.of (s57 _ _ e5T)) (dS_all _), shaped_texts _ hasc, shaped_texts _ hasc, _, rfl, ?_⟩
    rw [show PyData.eqv (.list (ts1.map dS)) (.list (ts1.map dS)) = true from by
      show PyData.eqvAll (ts1.map dS) (ts1.map dS) = true
      rw [eqv_texts, decide_eq_true rfl]]
    refine iteF ?_
    -- what was told, and what was handed, are changed
    have n4T : D1 ≠ D4 := ne_of_none e5T n6
    have n4U : D2 ≠ D4 := ne_of_none e5U n6
    have n4H : hA ≠ D4 := ne_of_none e5H n6
    have nHT : D1 ≠ hA := ne_of_none (s4 _ _ eT) nh
    have nHU : D2 ≠ hA := ne_of_none eU nh
    have e74 := s7 _ _ e6
    refine ⟨.ref D4, rfl, .inl ⟨rfl, _, SqL.of e74⟩, D4, _, .str "x", rfl, rfl, e74, by rw [vl_len]; omega, ?_⟩
    have e8H : (upd H7 D4 (.lst (vl (bareOf ts1) ++ [V.str "x"]))) hA = some (.lst (vl ts1)) := by rw [upd_ne n4H]; exact s57 _ _ e5H
    refine ⟨.ref hA, rfl, .inl ⟨rfl, _, SqL.of e8H⟩, hA, _, .str "'y", rfl, rfl, e8H, by rw [vl_len]; omega, ?_⟩
    have yS : (Str.ofString "'y") = S [39, 121] := cp_inj (by decide +kernel)
    have e9H : (upd (upd H7 D4 (.lst (vl (bareOf ts1) ++ [V.str "x"]))) hA (.lst (vl ts1 ++ [V.str "'y"]))) hA = some (.lst (vl (ts1 ++ [[39, 121]]))) := by
      rw [upd_same, vl_app, yS]
      rfl
    have e9T : (upd (upd H7 D4 (.lst (vl (bareOf ts1) ++ [V.str "x"]))) hA (.lst (vl ts1 ++ [V.str "'y"]))) D1 = some (.lst (vl ts1)) := by rw [upd_ne nHT, upd_ne n4T]; exact s57 _ _ e5T
    have e9U : (upd (upd H7 D4 (.lst (vl (bareOf ts1) ++ [V.str "x"]))) hA (.lst (vl ts1 ++ [V.str "'y"]))) D2 = some (.lst (vl (bareOf ts1))) := by rw [upd_ne nHU, upd_ne n4U]; exact s57 _ _ e5U
    have k9 : Same H4 (upd (upd H7 D4 (.lst (vl (bareOf ts1) ++ [V.str "x"]))) hA (.lst (vl ts1 ++ [V.str "'y"]))) := fun b o hb => by
      rw [upd_ne (ne_of_none hb nh), upd_ne (ne_of_none (s5 _ _ hb) n6)]
      exact s57 _ _ (s5 _ _ hb)
    show (fun H1 => _) (upd (upd H7 D4 (.lst (vl (bareOf ts1) ++ [V.str "x"]))) hA (.lst (vl ts1 ++ [V.str "'y"])))
    generalize upd (upd H7 D4 (.lst (vl (bareOf ts1) ++ [V.str "x"]))) hA (.lst (vl ts1 ++ [V.str "'y"])) = H9 at e9H e9T e9U k9 ⊢
    -- once more
    refine ⟨.ref D1, rfl, .ref D1, true, rfl, txT e9T (by omega) ht, fun _ a1 ts2 w1 w2 _ _ D5 HA sA nA eA => ?_, fun z => Bool.noConfusion z⟩
    obtain rfl : ts2 = ts1 := by
      cases w1
      rw [w2] at e9T
      exact vl_inj (HO.lst.inj (Option.some.inj e9T))
    clear w1 w2
    refine ⟨.ref D2, rfl, .ref D5, .ref D2, rfl, vlE (k := 6) (by omega) eA (sA _ _ e9U), fun HB sB => ⟨true, rfl, iteF ?_⟩⟩
    have s9B := sA.trans sB
    have hty : ∀ t ∈ ts2 ++ [[39, 121]], isTok t = true := fun t h => by
      rw [List.mem_append, List.mem_singleton] at h
      rcases h with h | rfl
      · exact ht t h
      · decide
    refine ⟨.ref hA, rfl, .ref hA, true, rfl, txT (s9B _ _ e9H) (by rw [List.length_append]; simp; omega) hty, fun _ a1 ts3 w1 w2 _ _ D6 HC sC nC eC => ?_, fun z => Bool.noConfusion z⟩
    obtain rfl : ts3 = ts2 ++ [[39, 121]] := by
      cases w1
      have := s9B _ _ e9H
      rw [w2] at this
      exact vl_inj (HO.lst.inj (Option.some.inj this))
    clear w1 w2
    rw [bare_snoc] at eC
    refine ⟨.ref D2, rfl, sz 1 (by decide), fun l nl => ?_⟩
    have sl := same_upd (o := .lst [V.str "y"]) nl
    have s9C := s9B.trans sC
    refine ⟨D2, l, _, _, rfl, rfl, sl _ _ (s9C _ _ e9U), upd_same, by rw [vl_len]; exact Nat.le_trans (by show (bareOf ts2).length + 1 ≤ 100000; omega) big, fun p np => ?_⟩
    have sp := same_upd (o := .lst (vl (bareOf ts2) ++ [V.str "y"])) np
    have y1 : (Str.ofString "y") = S [121] := cp_inj (by decide +kernel)
    have ep : (upd (upd HC l (.lst [V.str "y"])) p (.lst (vl (bareOf ts2) ++ [V.str "y"]))) p = some (.lst (vl (bareOf ts2 ++ [[121]]))) := by
      rw [upd_same, vl_app, y1]
      rfl
    have hasc2 : ∀ t ∈ bareOf ts2 ++ [[121]], Asc t := fun t h => by
      rw [List.mem_append, List.mem_singleton] at h
      rcases h with h | rfl
      · exact bare_asc hasc t h
      · intro c hc
        rw [List.mem_singleton.mp hc]
        decide
    refine ⟨.list ((bareOf ts2 ++ [[121]]).map dS), .list ((bareOf ts2 ++ [[121]]).map dS), .lst (SqL.of (sp _ _ (sl _ _ eC))) (dS_all _), .lst (SqL.of ep) (dS_all _), shaped_texts _ hasc2, shaped_texts _ hasc2, _, rfl, ?_⟩
    rw [eqv_self (bareOf ts2 ++ [[121]])]
    refine iteF ?_
    have s9D := (s9C.trans sl).trans sp
    have eTD := s9D _ _ e9T
    have kD := ((k1.trans k2).trans (Same.keep (a := a) (s4.trans (k9.trans s9D))))
    have PD := P2.same (s4.trans (k9.trans s9D))
    generalize upd (upd HC l (.lst [V.str "y"])) p (.lst (vl (bareOf ts2) ++ [V.str "y"])) = HD at eTD kD PD ⊢
    -- a bad one
    refine ⟨.ref a, rfl, sz 1 (by decide), fun bA nb => ⟨sz 9 (by decide), fun L1 nL1 => ?_⟩⟩
    have sb := same_upd (o := .lst [V.str "a"]) nb
    have sL := same_upd (o := .lst [V.str "", .str "_", .str "A", .str "00", .int 7, .non, .ref bA, .str "'1", .bl true]) nL1
    have sbL := sb.trans sL
    have bAa : bA ≠ a := fun e => aD_of PD nb e.symm
    refine ⟨a, L1, _, _, rfl, PD.same sbL, by omega, SqL.of upd_same, fun e => aD_of (PD.same sb) nL1 e.symm, (show 0 < 9 by decide), (show 9 < 2 ^ 26 by decide), fun v HE hv kE PE' => ?_⟩
    have ebE : HE bA = some (.lst [.str "a"]) := kE _ _ bAa (sL _ _ upd_same)
    have hbad : ofS isTok v = false ∧ (∀ H' : Hp, H' bA = some (.lst [.str "a"]) → Plain K H' v) ∧ ((∃ m, Atom v m) ∨ v = .ref bA) := by
      have strB : ∀ z : Str, z.length ≤ 100 → isTok (cp z) = false → ofS isTok (.str z) = false ∧ (∀ H' : Hp, H' bA = some (.lst [.str "a"]) → Plain K H' (.str z)) ∧ ((∃ m, Atom (.str z) m) ∨ V.str z = .ref bA) := fun z hz hk => ⟨hk, fun H' _ => .inl ⟨z, rfl, by omega⟩, .inl ⟨_, .str z⟩⟩
      have atB : ∀ (u : V) (m : String), Atom u m → (∀ x, u ≠ .str x) → kitB m "str" = some false → ofS isTok u = false ∧ (∀ H' : Hp, H' bA = some (.lst [.str "a"]) → Plain K H' u) ∧ ((∃ m, Atom u m) ∨ u = .ref bA) := fun u m hm hs hk => by
        have no : ∀ H' : Hp, NoS K H' u := fun H' => ⟨hs, _, kit_ty hk, fun H2 _ => hm.ty⟩
        exact ⟨ofS_no (no HE) _, fun H' _ => .inr (no H'), .inl ⟨m, hm⟩⟩
      simp only [List.mem_cons, List.not_mem_nil, or_false] at hv
      rcases hv with rfl | rfl | rfl | rfl | rfl | rfl | rfl | rfl | rfl
      · exact strB _ (by decide +kernel) (by decide +kernel)
      · exact strB _ (by decide +kernel) (by decide +kernel)
      · exact strB _ (by decide +kernel) (by decide +kernel)
      · exact strB _ (by decide +kernel) (by decide +kernel)
      · exact atB _ _ (.int 7) (fun x z => (by cases z)) (by decide +kernel)
      · exact atB _ _ .non (fun x z => (by cases z)) (by decide +kernel)
      · have no : ∀ H' : Hp, H' bA = some (.lst [.str "a"]) → NoS K H' (.ref bA) := fun H' e' => ⟨fun x z => (by cases z), .type "list", kit_ty (by decide +kernel), fun H2 s2 => .base (.lst (s2 _ _ e'))⟩
        exact ⟨ofS_no (no HE ebE) _, fun H' e' => .inr (no H' e'), .inr rfl⟩
      · exact strB _ (by decide +kernel) (by decide +kernel)
      · exact atB _ _ (.bl true) (fun x z => (by cases z)) (by decide +kernel)
    have aT : D1 ≠ a := (aD_of P1 nD1).symm
    have eTE : HE D1 = some (.lst (vl ts2)) := kE _ _ aT (sbL _ _ eTD)
    -- where it is put
    refine ⟨.ref a, rfl, .ref D1, rfl, D1, vl ts2, rfl, .inl (SqL.of eTE), _, _, rfl, rfl, a, _, _, rfl, PE', by omega, by omega, by omega, fun r2 HF r20 r21 kF PF => ⟨_, _, rfl, ?_⟩⟩
    have eTF : HF D1 = some (.lst (vl ts2)) := kF _ _ aT eTE
    have ebF := kF _ _ bAa ebE
    -- the four things
    have lvl : ∀ (lo hi : Option Int), (cutV (vl ts2) lo hi).length ≤ 40 := fun lo hi => by
      have := cutV_length (vl ts2) lo hi
      omega
    refine ⟨.ref D1, rfl, .int r2, rfl, r2, rfl, D1, vl ts2, rfl, SqL.of eTF, fun q1 m1 => ?_⟩
    have w1 := same_upd (o := .lst (cutV (vl ts2) none (some r2))) m1
    refine ⟨v, rfl, sz 1 (by decide), fun q2 m2 => ?_⟩
    have w2 := same_upd (o := .lst [v]) m2
    refine ⟨q1, q2, _, _, rfl, rfl, w2 _ _ upd_same, upd_same, by have := lvl none (some r2); show (cutV (vl ts2) none (some r2)).length + 1 ≤ sizeLine; omega, fun q3 m3 => ?_⟩
    have w3 := same_upd (o := .lst (cutV (vl ts2) none (some r2) ++ [v])) m3
    have w13 := (w1.trans w2).trans w3
    refine ⟨.ref D1, rfl, .int r2, rfl, r2, rfl, D1, vl ts2, rfl, SqL.of (w13 _ _ eTF), fun q4 m4 => ?_⟩
    have w4 := same_upd (o := .lst (cutV (vl ts2) (some r2) none)) m4
    refine ⟨q3, q4, _, _, rfl, rfl, w4 _ _ upd_same, upd_same, by have := lvl none (some r2); have := lvl (some r2) none; rw [List.length_append]; show _ + 1 + _ ≤ sizeLine; omega, fun q5 m5 => ?_⟩
    have hW : ∀ x ∈ cutV (vl ts2) none (some r2) ++ [v] ++ cutV (vl ts2) (some r2) none, x ∈ vl ts2 ∨ x = v := fun x hx => by
      rw [List.mem_append, List.mem_append, List.mem_singleton] at hx
      rcases hx with (h | h) | h
      · exact .inl (mem_cutV h)
      · exact .inr h
      · exact .inl (mem_cutV h)
    have lW : (cutV (vl ts2) none (some r2) ++ [v] ++ cutV (vl ts2) (some r2) none).length ≤ 200 := by
      have := lvl none (some r2)
      have := lvl (some r2) none
      rw [List.length_append, List.length_append]
      show _ + 1 + _ ≤ 200
      omega
    have vW : v ∈ cutV (vl ts2) none (some r2) ++ [v] ++ cutV (vl ts2) (some r2) none := by simp
    generalize cutV (vl ts2) none (some r2) ++ [v] ++ cutV (vl ts2) (some r2) none = W at hW lW vW
    have w5 := same_upd (o := .lst W) m5
    have w15 := (w13.trans w4).trans w5
    refine ⟨.ref D1, rfl, D1, vl ts2, rfl, .inl ⟨SqL.of (w15 _ _ eTF), fun q6 m6 => ⟨sz 4 (by decide), fun tq ntq => ?_⟩⟩⟩
    have w6 := same_upd (o := .tup (vl ts2)) m6
    have wq := same_upd (o := .tup [.ref q5, .ref q6, .str "a", .non]) ntq
    have q5b : bA ≠ q5 := ne_of_none ((w13.trans w4) _ _ ebF) m5
    have sAll := (w15.trans w6).trans wq
    have x5 := wq _ _ (w6 _ _ (upd_same (H := upd (upd (upd (upd HF q1 (.lst (cutV (vl ts2) none (some r2)))) q2 (.lst [v])) q3 (.lst (cutV (vl ts2) none (some r2) ++ [v]))) q4 (.lst (cutV (vl ts2) (some r2) none))) (a := q5) (o := .lst W)))
    have x6 := wq _ _ (upd_same (H := upd (upd (upd (upd (upd HF q1 (.lst (cutV (vl ts2) none (some r2)))) q2 (.lst [v])) q3 (.lst (cutV (vl ts2) none (some r2) ++ [v]))) q4 (.lst (cutV (vl ts2) (some r2) none))) q5 (.lst W)) (a := q6) (o := .tup (vl ts2)))
    have ebv := sAll _ _ ebF
    have etq := upd_same (H := upd (upd (upd (upd (upd (upd HF q1 (.lst (cutV (vl ts2) none (some r2)))) q2 (.lst [v])) q3 (.lst (cutV (vl ts2) none (some r2) ++ [v]))) q4 (.lst (cutV (vl ts2) (some r2) none))) q5 (.lst W)) q6 (.tup (vl ts2))) (a := tq) (o := .tup [.ref q5, .ref q6, .str "a", .non])
    generalize upd (upd (upd (upd (upd (upd (upd HF q1 (.lst (cutV (vl ts2) none (some r2)))) q2 (.lst [v])) q3 (.lst (cutV (vl ts2) none (some r2) ++ [v]))) q4 (.lst (cutV (vl ts2) (some r2) none))) q5 (.lst W)) q6 (.tup (vl ts2))) tq (.tup [.ref q5, .ref q6, .str "a", .non]) = Hv at x5 x6 ebv etq sAll ⊢
    -- each is refused
    have things : ∀ x, x ∈ [V.ref q5, .ref q6, .str "a", .non] → ∀ H', Same Hv H' → Thing3 K D H' x ∧ TxV K H' x false := by
      intro x hx H' s'
      simp only [List.mem_cons, List.not_mem_nil, or_false] at hx
      rcases hx with rfl | rfl | rfl | rfl
      · refine ⟨.inr ⟨q5, W, rfl, s' _ _ x5, by omega, fun y hy H2 k2 => ?_⟩, .inl ⟨q5, W, rfl, s' _ _ x5, by omega, fun y hy => ?_, ?_⟩⟩
        · rcases hW y hy with h | rfl
          · obtain ⟨m, hm⟩ := vl_atoms ts2 y h
            exact atom_eqe hm 5
          · rcases hbad.2.2 with ⟨m, hm⟩ | rfl
            · exact atom_eqe hm 5
            · have := k2 _ _ q5b (s' _ _ ebv)
              exact .inr (.inl ⟨bA, bA, _, _, rfl, rfl, .inl ⟨this, this⟩, .cons (atom_eqe (.str _) 4) .nil, by decide⟩)
        · rcases hW y hy with h | rfl
          · exact vl_plain h9 y h
          · exact hbad.2.1 _ (s' _ _ ebv)
        · symm
          cases e : W.all (ofS isTok) with
          | false => rfl
          | true =>
            have := List.all_eq_true.mp e v vW
            rw [hbad.1] at this
            cases this
      · have no : NoL K H' (.ref q6) := ⟨.type "tuple", kit_ty (by decide +kernel), fun H2 s2 => .base (.tup ((s'.trans s2) _ _ x6))⟩
        exact ⟨.inl ⟨no, .inr (.inl ⟨q6, q6, vl ts2, vl ts2, rfl, rfl, .inr ⟨s' _ _ x6, s' _ _ x6⟩, strs_refl fun y hy => by obtain ⟨t, _, rfl⟩ := List.mem_map.mp hy; exact ⟨_, rfl⟩, by omega⟩)⟩, .inr ⟨no, rfl⟩⟩
      · have no : NoL K H' (.str "a") := ⟨.type "str", kit_ty (by decide +kernel), fun H2 s2 => .base (.str _)⟩
        exact ⟨.inl ⟨no, atom_eqe (.str _) 6⟩, .inr ⟨no, rfl⟩⟩
      · have no : NoL K H' .non := ⟨.type "NoneType", kit_ty (by decide +kernel), fun H2 s2 => .base .non⟩
        exact ⟨.inl ⟨no, atom_eqe .non 6⟩, .inr ⟨no, rfl⟩⟩
    refine ⟨tq, rfl, ⟨_, SqT.of etq⟩, for_tup (K := K) (a := tq) (xs := [V.ref q5, .ref q6, .str "a", .non])
      (fun i σ H' => (∃ y7 : Option V, σ = [some (.ref a), some (.ref D1), some (.ref D2), some (.ref hA), some (.ref D4), some v, some (.int r2), y7, none, none]) ∧ Same Hv H') ⟨⟨none, rfl⟩, Same.refl _⟩ (fun i σ H' _ h => SqT.of (h.2 _ _ etq)) ?_ ?_⟩
    · rintro i x σ HG hx ⟨⟨y7, rfl⟩, sG⟩
      have hmem := List.mem_of_getElem? hx
      obtain ⟨th, tx⟩ := things x hmem HG sG
      refine ⟨x, rfl, x, .int 0, .inr (.inl ⟨rfl, tx, fun HI t sI eI => ?_⟩)⟩
      refine ⟨x, rfl, t, "text", x, rfl, eI, th.same sI, fun HJ sJ => ⟨true, rfl, iteF ⟨⟨_, rfl⟩, (sG.trans sI).trans sJ⟩⟩⟩
    · rintro σ HG ⟨⟨y7, rfl⟩, sG⟩
      refine q HG ((((kD.trans (Same.keep sbL)).trans kE).trans kF).trans (Same.keep (sAll.trans sG))) ?_
      exact ((PF.same (sAll.trans sG)).more (by omega))
end
end K2

set_option Elab.async false
set_option linter.all false
set_option maxRecDepth 100000
set_option maxHeartbeats 8000000
/-! k03: the law's six forms are sound, whatever its nine tokens, and so is each choice of them -/
namespace K2
open PySem PySem.Spec PyProof.Rows L2 EL LW ND
open Ln (L isTok isWord isSign isRun)
/-- a form by numbers: nine tokens, 9 for a hole -/
structure Cf where
  p : List Nat
  l : Int
  ls : List Int
deriving DecidableEq
def cfs : List Cf := [⟨[0, 9, 1, 9], 3, [0, 3]⟩, ⟨[9, 2, 9], 5, [5, 6]⟩, ⟨[3, 9], 9, [0]⟩, ⟨[9, 4, 5], 1, [1]⟩, ⟨[6, 7, 9], 2, [2]⟩, ⟨[0, 9, 1, 9, 8, 9], 3, [0, 3, 3]⟩]
/-- the texts behind the numbers -/
structure Nm9 (m : Nat → Str) : Prop where
  inj : ∀ i j, i ≤ 10 → j ≤ 10 → m i = m j → i = j
  hole : m 9 = hole
  none : m 10 = noS
  tok : ∀ i, i < 9 → (m i).length ≤ 8 ∧ isFixed (cp (m i)) = true
def mF (m : Nat → Str) (c : Cf) : Fm := ⟨c.p.map m, c.l, c.ls⟩
def few9 (p : List Nat) : Prop := ∀ x ∈ p, x ≤ 9
section
variable {m : Nat → Str}
theorem Nm9.map_inj (N : Nm9 m) : ∀ {p q : List Nat}, (∀ x ∈ p, x ≤ 10) → (∀ x ∈ q, x ≤ 10) → p.map m = q.map m → p = q
  | [], [], _, _, _ => rfl
  | [], _ :: _, _, _, h => by cases h
  | _ :: _, [], _, _, h => by cases h
  | x :: p, y :: q, h1, h2, h => by
    rw [List.map_cons, List.map_cons] at h
    injection h with ha hb
    rw [N.inj x y (h1 x List.mem_cons_self) (h2 y List.mem_cons_self) ha, N.map_inj (fun z hz => h1 z (List.mem_cons_of_mem _ hz)) (fun z hz => h2 z (List.mem_cons_of_mem _ hz)) hb]
theorem Nm9.eq9 (N : Nm9 m) {x : Nat} (h : x ≤ 10) : (m x = K2.hole) ↔ x = 9 := by
  rw [← N.hole]
  exact ⟨fun e => N.inj x 9 h (by decide) e, fun e => by rw [e]⟩
theorem getD_map (p : List Nat) (i : Nat) (d : Str) (hd : m 9 = d) : (p.map m).getD i d = m (p.getD i 9) := by
  rw [List.getD_eq_getElem?_getD, List.getD_eq_getElem?_getD, List.getElem?_map]
  cases p[i]? with
  | none => exact hd.symm
  | some x => rfl
theorem cfs9 : ∀ c ∈ cfs, ∀ x ∈ c.p, x ≤ 9 := by decide
theorem getD9 {p : List Nat} (h : ∀ x ∈ p, x ≤ 9) (i : Nat) : p.getD i 9 ≤ 9 := by
  rw [List.getD_eq_getElem?_getD]
  cases e : p[i]? with
  | none => exact Nat.le_refl _
  | some x => exact h x (List.mem_of_getElem? e)
theorem Nm9.count (N : Nm9 m) : ∀ {p : List Nat}, (∀ x ∈ p, x ≤ 9) → (p.map m).countP (· == K2.hole) = p.countP (· == 9)
  | [], _ => rfl
  | x :: p, h => by
    rw [List.map_cons, List.countP_cons, List.countP_cons, N.count fun y hy => h y (List.mem_cons_of_mem _ hy)]
    have : (m x == K2.hole) = (x == 9) := by
      rw [Bool.eq_iff_iff, beq_iff_eq, beq_iff_eq]
      exact N.eq9 (Nat.le_trans (h x List.mem_cons_self) (by decide))
    rw [this]
theorem cfs_pat : ∀ c ∈ cfs, 2 ≤ c.p.length ∧ c.p.length ≤ 7 ∧ c.p.countP (· == 9) ≤ 3 ∧ c.p.countP (· == 9) ≠ c.p.length ∧ (∀ i, i < 7 → c.p[i]? = some 9 → c.p[i + 1]? ≠ some 9) ∧ 0 ≤ c.l ∧ c.l ≤ 9 ∧ c.ls.length = c.p.countP (· == 9) ∧ ∀ i ∈ c.ls, 0 ≤ i ∧ i ≤ 9 := by decide
theorem Nm9.form (N : Nm9 m) {c : Cf} (hc : c ∈ cfs) : FmOk (mF m c) := by
  obtain ⟨h1, h2, h3, h4, h5, h6, h7, h8, h9⟩ := cfs_pat c hc
  have h10 := cfs9 c hc
  have hlen : (mF m c).pat.length = c.p.length := List.length_map ..
  refine ⟨⟨by omega, by omega, fun x hx => ?_, by show (c.p.map m).countP _ ≤ 3; rw [N.count h10]; exact h3, by show (c.p.map m).countP _ ≠ (c.p.map m).length; rw [N.count h10, List.length_map]; exact h4, fun i hi hi2 => ?_⟩, ⟨h6, h7⟩, by show c.ls.length = (c.p.map m).countP _; rw [N.count h10]; exact h8, h9⟩
  · obtain ⟨y, hy, rfl⟩ := List.mem_map.mp hx
    have hy9 := h10 y hy
    rcases Nat.lt_or_ge y 9 with lt | ge
    · exact ⟨(N.tok y lt).1, .inr (N.tok y lt).2⟩
    · have : y = 9 := by omega
      rw [this, N.hole]
      exact ⟨by decide +kernel, .inl rfl⟩
  · have e1 : (c.p.map m)[i]? = some K2.hole := hi
    have e2 : (c.p.map m)[i + 1]? = some K2.hole := hi2
    rw [List.getElem?_map] at e1 e2
    obtain ⟨x, hx, ex⟩ := Option.map_eq_some_iff.mp e1
    obtain ⟨y, hy, ey⟩ := Option.map_eq_some_iff.mp e2
    have x9 := (N.eq9 (Nat.le_trans (h10 x (List.mem_of_getElem? hx)) (by decide))).mp ex
    have y9 := (N.eq9 (Nat.le_trans (h10 y (List.mem_of_getElem? hy)) (by decide))).mp ey
    have hi7 : i < 7 := by
      have := (List.getElem?_eq_some_iff.mp hx).1
      omega
    exact h5 i hi7 (by rw [hx, x9]) (by rw [hy, y9])
/-! ### keys -/
abbrev CK := Nat × List Nat
def ownC (p : List Nat) : CK := if p.getD 0 9 = 9 then (1, [p.getD 1 9]) else (0, [p.getD 0 9])
def holeC (p : List Nat) (i : Nat) : CK := if i = 0 then (2, [p.getD 1 9]) else (3, p.take (i + 1))
def keysC (p : List Nat) : List CK := ownC p :: ((List.range p.length).filter fun i => decide (p.getD i 9 = 9)).map (holeC p)
def kname : Nat → Str
  | 0 => tHead
  | 1 => tTail
  | 2 => tLeft
  | _ => tHole
def NK (m : Nat → Str) (k : CK) : NestedKey := if k.1 = 3 then .tup [.text tHole, .tup ((k.2.map m).map .text)] else .tup [.text (kname k.1), .text (m (k.2.getD 0 9))]
theorem Nm9.own (N : Nm9 m) {p : List Nat} (h : ∀ x ∈ p, x ≤ 9) : ownN (p.map m) = NK m (ownC p) := by
  unfold ownN ownC
  rw [getD_map p 0 _ N.hole, getD_map p 1 _ N.hole]
  have h0 := getD9 h 0
  by_cases c : p.getD 0 9 = 9
  · rw [if_pos c, if_pos (by rw [c]; exact N.hole)]
    rfl
  · rw [if_neg c, if_neg (fun e => c ((N.eq9 (by omega)).mp e))]
    rfl
theorem Nm9.hole' (N : Nm9 m) (p : List Nat) (i : Nat) : holeN (p.map m) i = NK m (holeC p i) := by
  unfold holeN holeC
  by_cases c : i = 0
  · rw [if_pos c, if_pos c, getD_map p 1 _ N.hole]
    rfl
  · rw [if_neg c, if_neg c, ← List.map_take]
    rfl
theorem Nm9.keys (N : Nm9 m) {p : List Nat} (h : ∀ x ∈ p, x ≤ 9) : keysN (p.map m) = (keysC p).map (NK m) := by
  unfold keysN keysC
  rw [List.map_cons, N.own h]
  congr 1
  have e : holesAt (p.map m) = (List.range p.length).filter fun i => decide (p.getD i 9 = 9) := by
    unfold holesAt
    rw [List.length_map]
    refine List.filter_congr fun i _ => ?_
    rw [getD_map p i _ N.hole, Bool.eq_iff_iff, decide_eq_true_iff, decide_eq_true_iff]
    exact N.eq9 (Nat.le_trans (getD9 h i) (by decide))
  rw [e, List.map_map]
  exact List.map_congr_left fun i _ => N.hole' p i
/-- keys as the six forms have them -/
def KeyC (k : CK) : Prop := k.1 ≤ 3 ∧ (∀ x ∈ k.2, x ≤ 9) ∧ (k.1 ≠ 3 → k.2.length = 1)
instance (k : CK) : Decidable (KeyC k) := by unfold KeyC; exact inferInstance
theorem texts_inj : ∀ {p q : List Str}, p.map NestedKey.text = q.map NestedKey.text → p = q
  | [], [], _ => rfl
  | [], _ :: _, h => by cases h
  | _ :: _, [], h => by cases h
  | x :: p, y :: q, h => by
    injection h with h1 h2
    injection h1 with h1
    rw [h1, texts_inj h2]
theorem Nm9.nk_inj (N : Nm9 m) {k l : CK} (hk : KeyC k) (hl : KeyC l) (e : NK m k = NK m l) : k = l := by
  obtain ⟨a, ks⟩ := k
  obtain ⟨b, ls⟩ := l
  have one : ∀ {xs : List Nat}, xs.length = 1 → ∃ x, xs = [x] := fun {xs} h => by
    match xs, h with
    | [x], _ => exact ⟨x, rfl⟩
  have names : ∀ i, i < 4 → ∀ j, j < 4 → kname i = kname j → i = j := by decide +kernel
  unfold NK at e
  by_cases c : a = 3
  · by_cases d : b = 3
    · subst c d
      rw [if_pos rfl, if_pos rfl] at e
      injection e with e
      injection e with _ e
      injection e with e
      injection e with e
      have e2 : ks.map m = ls.map m := texts_inj e
      have e3 : ks = ls := N.map_inj (fun x hx => Nat.le_trans (hk.2.1 x hx) (by decide)) (fun x hx => Nat.le_trans (hl.2.1 x hx) (by decide)) e2
      rw [e3]
    · rw [if_pos c, if_neg d] at e
      injection e with e
      injection e with _ e
      injection e with e
      cases e
  · by_cases d : b = 3
    · rw [if_neg c, if_pos d] at e
      injection e with e
      injection e with _ e
      injection e with e
      cases e
    · rw [if_neg c, if_neg d] at e
      injection e with e
      injection e with e1 e
      injection e with e
      injection e1 with e1
      injection e with e
      obtain ⟨x, rfl⟩ := one (hk.2.2 c)
      obtain ⟨y, rfl⟩ := one (hl.2.2 d)
      have hx := hk.2.1 x (by simp)
      have hy := hl.2.1 y (by simp)
      have : x = y := N.inj x y (by omega) (by omega) e
      have h1 := hk.1
      have h2 := hl.1
      rw [names a (by omega) b (by omega) e1, this]
def levC : List (CK × Int) := cfs.flatMap fun c => (keysC c.p).zip (c.l :: c.ls)
theorem levC_ok : ∀ q ∈ levC, KeyC q.1 ∧ ∀ r ∈ levC, q.1 = r.1 → q.2 = r.2 := by decide
theorem lev_in (N : Nm9 m) {fs : List Fm} (hfs : ∀ f ∈ fs, ∃ c ∈ cfs, f = mF m c) {k : NestedKey} {i : Int} (h : (k, i) ∈ allLv fs) : ∃ q ∈ levC, k = NK m q.1 ∧ i = q.2 := by
  obtain ⟨f, hf, hq⟩ := List.mem_flatMap.mp h
  obtain ⟨c, hc, rfl⟩ := hfs f hf
  have hq' : (k, i) ∈ (keysN (c.p.map m)).zip (c.l :: c.ls) := hq
  rw [N.keys (cfs9 c hc), List.zip_map_left] at hq'
  obtain ⟨q, hq2, e⟩ := List.mem_map.mp hq'
  refine ⟨q, List.mem_flatMap.mpr ⟨c, hc, hq2⟩, ?_, ?_⟩
  · exact (congrArg Prod.fst e).symm
  · exact (congrArg Prod.snd e).symm
theorem Nm9.levels (N : Nm9 m) {fs : List Fm} (hfs : ∀ f ∈ fs, ∃ c ∈ cfs, f = mF m c) : LvOk fs := by
  intro k i j h1 h2
  obtain ⟨q, hq, e1, rfl⟩ := lev_in N hfs h1
  obtain ⟨r, hr, e2, rfl⟩ := lev_in N hfs h2
  exact (levC_ok q hq).2 r hr (N.nk_inj (levC_ok q hq).1 (levC_ok r hr).1 (e1.symm.trans e2))
/-! ### what goes on, tails and middles, soft words -/
def nextC (p : List Nat) (i : Nat) : Nat := if i < p.length then p.getD i 9 else 10
theorem Nm9.next (N : Nm9 m) (p : List Nat) (i : Nat) : itemAt (p.map m) i = m (nextC p i) := by
  unfold itemAt nextC
  rw [List.length_map]
  by_cases c : i < p.length
  · rw [if_pos c, if_pos c, getD_map p i _ N.hole]
  · rw [if_neg c, if_neg c, N.none]
theorem branchC : ∀ c ∈ cfs, ∀ d ∈ cfs, ∀ j, j < c.p.length → ∀ k, k < d.p.length → c.p.take (j + 1) = d.p.take (k + 1) → nextC c.p (j + 1) = 9 → nextC d.p (k + 1) = 9 := by decide
theorem next_le {p : List Nat} (h : ∀ x ∈ p, x ≤ 9) (i : Nat) : nextC p i ≤ 10 := by
  unfold nextC
  split
  · have := getD9 h i
    omega
  · exact Nat.le_refl _
theorem Nm9.branch (N : Nm9 m) {fs : List Fm} (hfs : ∀ f ∈ fs, ∃ c ∈ cfs, f = mF m c) : ParOk (patsOf fs) := by
  intro q hq hh x hx
  obtain ⟨_, hfrom⟩ := fol_from hq
  have pat : ∀ p ∈ patsOf fs, ∃ c ∈ cfs, p = c.p.map m := fun p hp => by
    obtain ⟨f, hf, rfl⟩ := List.mem_map.mp hp
    obtain ⟨c, hc, rfl⟩ := hfs f hf
    exact ⟨c, hc, rfl⟩
  obtain ⟨p, hp, j, hj, e1, e2⟩ := hfrom _ hh
  obtain ⟨p', hp', k, hk, e3, e4⟩ := hfrom _ hx
  obtain ⟨c, hc, rfl⟩ := pat p hp
  obtain ⟨d, hd, rfl⟩ := pat p' hp'
  rw [List.length_map] at hj hk
  have c9 := cfs9 c hc
  have d9 := cfs9 d hd
  have e5 : c.p.take (j + 1) = d.p.take (k + 1) := by
    have : (c.p.take (j + 1)).map m = (d.p.take (k + 1)).map m := by rw [List.map_take, List.map_take, ← e1, ← e3]
    exact N.map_inj (fun x hx => Nat.le_trans (c9 x (List.mem_of_mem_take hx)) (by decide)) (fun x hx => Nat.le_trans (d9 x (List.mem_of_mem_take hx)) (by decide)) this
  rw [N.next] at e2 e4
  have e6 := (N.eq9 (next_le c9 (j + 1))).mp e2.symm
  rw [e4, branchC c hc d hd j hj k hk e5 e6, N.hole]
def midC (p : List Nat) : List Nat := (if p.getD 0 9 = 9 then p.drop 2 else p.drop 1).filter fun x => decide (x ≠ 9)
theorem tailsC : ∀ c ∈ cfs, c.p.getD 0 9 = 9 → ∀ d ∈ cfs, c.p.getD 1 9 ∉ midC d.p := by decide
theorem Nm9.mids (N : Nm9 m) {p : List Nat} (h : ∀ x ∈ p, x ≤ 9) : midsOf (p.map m) = (midC p).map m := by
  have filt : ∀ q : List Nat, (∀ x ∈ q, x ≤ 9) → (q.map m).filter (fun x => decide (x ≠ K2.hole)) = (q.filter fun x => decide (x ≠ 9)).map m := fun q hq => by
    rw [List.filter_map]
    congr 1
    refine List.filter_congr fun x hx => ?_
    show decide (m x ≠ K2.hole) = decide (x ≠ 9)
    rw [Bool.eq_iff_iff, decide_eq_true_iff, decide_eq_true_iff]
    exact not_congr (N.eq9 (Nat.le_trans (hq x hx) (by decide)))
  unfold midsOf midC isT
  rw [getD_map p 0 _ N.hole]
  have h0 := getD9 h 0
  by_cases c : p.getD 0 9 = 9
  · rw [if_pos c, if_pos (decide_eq_true (by rw [c]; exact N.hole)), ← List.map_drop]
    exact filt _ fun x hx => h x (List.mem_of_mem_drop hx)
  · have : decide (m (p.getD 0 9) = K2.hole) = false := decide_eq_false fun e => c ((N.eq9 (by omega)).mp e)
    rw [if_neg c, this, if_neg Bool.false_ne_true, ← List.map_drop]
    exact filt _ fun x hx => h x (List.mem_of_mem_drop hx)
theorem Nm9.both (N : Nm9 m) {fs : List Fm} (hfs : ∀ f ∈ fs, ∃ c ∈ cfs, f = mF m c) : TmOk (patsOf fs) := by
  intro t ht hmid
  have pat : ∀ p ∈ patsOf fs, ∃ c ∈ cfs, p = c.p.map m := fun p hp => by
    obtain ⟨f, hf, rfl⟩ := List.mem_map.mp hp
    obtain ⟨c, hc, rfl⟩ := hfs f hf
    exact ⟨c, hc, rfl⟩
  obtain ⟨p, hp, rfl⟩ := List.mem_map.mp ht
  obtain ⟨hp1, hp2⟩ := List.mem_filter.mp hp
  obtain ⟨c, hc, rfl⟩ := pat p hp1
  obtain ⟨p', hp', hm⟩ := List.mem_flatMap.mp hmid
  obtain ⟨d, hd, rfl⟩ := pat p' hp'
  have c9 := cfs9 c hc
  have d9 := cfs9 d hd
  have hT : c.p.getD 0 9 = 9 := by
    have := of_decide_eq_true hp2
    rw [getD_map c.p 0 _ N.hole] at this
    exact (N.eq9 (Nat.le_trans (getD9 c9 0) (by decide))).mp this
  rw [N.mids d9, getD_map c.p 1 _ N.hole] at hm
  obtain ⟨y, hy, e⟩ := List.mem_map.mp hm
  have y9 : y ≤ 9 := by
    have := (List.mem_filter.mp hy).1
    split at this
    · exact d9 y (List.mem_of_mem_drop this)
    · exact d9 y (List.mem_of_mem_drop this)
  have : y = c.p.getD 1 9 := N.inj _ _ (by omega) (Nat.le_trans (getD9 c9 1) (by decide)) e
  exact tailsC c hc hT d hd (this ▸ hy)
theorem cfs_nodup : (cfs.map Cf.p).Nodup := by decide
theorem _root_.List.Nodup.map_on_ne {α β : Type} {f : α → β} : ∀ {l : List α}, l.Nodup → (∀ x ∈ l, ∀ y ∈ l, f x = f y → x = y) → (l.map f).Nodup
  | [], _, _ => List.nodup_nil
  | x :: l, h, g => by
    have h2 := List.nodup_cons.mp h
    rw [List.map_cons, List.nodup_cons]
    refine ⟨fun hm => ?_, List.Nodup.map_on_ne h2.2 fun y hy z hz => g y (List.mem_cons_of_mem _ hy) z (List.mem_cons_of_mem _ hz)⟩
    obtain ⟨y, hy, e⟩ := List.mem_map.mp hm
    have e2 := g y (List.mem_cons_of_mem _ hy) x List.mem_cons_self e
    exact h2.1 (e2 ▸ hy)
theorem nodup_len {α : Type} [DecidableEq α] : ∀ {l r : List α}, l.Nodup → (∀ x ∈ l, x ∈ r) → l.length ≤ r.length
  | [], r, _, _ => Nat.zero_le _
  | x :: l, r, h, g => by
    have h2 := List.nodup_cons.mp h
    have := nodup_len (l := l) (r := r.erase x) h2.2 fun y hy => by
      have hne : y ≠ x := fun e => h2.1 (by rw [← e]; exact hy)
      exact (List.mem_erase_of_ne hne).mpr (g y (List.mem_cons_of_mem _ hy))
    have hx := g x List.mem_cons_self
    rw [List.length_erase_of_mem hx] at this
    have := List.length_pos_of_mem hx
    rw [List.length_cons]
    omega
/-- each choice of the six forms, in any order, with hard words that begin its heads -/
theorem Nm9.sound (N : Nm9 m) {cs : List Cf} (hcs : cs.Nodup) (hin : ∀ c ∈ cs, c ∈ cfs) {hard : List Str} (hh : ∀ t ∈ hard, ∃ c ∈ cs, c.p.getD 0 9 ≠ 9 ∧ t = m (c.p.getD 0 9)) : Sound (cs.map (mF m)) hard := by
  have hfs : ∀ f ∈ cs.map (mF m), ∃ c ∈ cfs, f = mF m c := fun f hf => by
    obtain ⟨c, hc, rfl⟩ := List.mem_map.mp hf
    exact ⟨c, hin c hc, rfl⟩
  have hlen : cs.length ≤ 6 := by
    exact nodup_len hcs hin
  refine ⟨by rw [List.length_map]; omega, fun f hf => by obtain ⟨c, hc, rfl⟩ := hfs f hf; exact N.form hc, ?_, N.levels hfs, N.branch hfs, N.both hfs, fun t ht => ?_, fun p hp h1 => ?_⟩
  · have e : patsOf (cs.map (mF m)) = (cs.map Cf.p).map (List.map m) := by
      unfold patsOf
      rw [List.map_map, List.map_map]
      rfl
    rw [e]
    have inj : ∀ c ∈ cfs, ∀ d ∈ cfs, c.p = d.p → c = d := by decide
    have hn : (cs.map Cf.p).Nodup := List.Nodup.map_on_ne hcs fun c hc d hd e => inj c (hin c hc) d (hin d hd) e
    refine List.Nodup.map_on_ne hn fun p hp q hq e => ?_
    obtain ⟨c, hc, rfl⟩ := List.mem_map.mp hp
    obtain ⟨d, hd, rfl⟩ := List.mem_map.mp hq
    exact N.map_inj (fun x hx => Nat.le_trans (cfs9 c (hin c hc) x hx) (by decide)) (fun x hx => Nat.le_trans (cfs9 d (hin d hd) x hx) (by decide)) e
  · obtain ⟨c, hc, hne, rfl⟩ := hh t ht
    have c9 := cfs9 c (hin c hc)
    unfold firstsM
    refine List.mem_map.mpr ⟨c.p.map m, List.mem_filter.mpr ⟨List.mem_map.mpr ⟨mF m c, List.mem_map.mpr ⟨c, hc, rfl⟩, rfl⟩, ?_⟩, getD_map c.p 0 _ N.hole⟩
    unfold isT
    rw [getD_map c.p 0 _ N.hole, decide_eq_false fun e => hne ((N.eq9 (Nat.le_trans (getD9 c9 0) (by decide))).mp e)]
    rfl
  · obtain ⟨f, hf, rfl⟩ := List.mem_map.mp hp
    obtain ⟨c, hc, rfl⟩ := hfs f hf
    have := (cfs_pat c hc).1
    have h1' : (c.p.map m).length = 1 := h1
    rw [List.length_map] at h1'
    omega
end
end K2

set_option Elab.async false
set_option linter.all false
set_option maxRecDepth 100000
set_option maxHeartbeats 8000000
/-! k03: a short edition -/
namespace K2
open PySem PySem.Spec PyProof.Rows L2 EL LW ND
open Ln (L isTok isWord isSign isRun)
abbrev sShort : Stmt := topS 93
abbrev nSh : List Str := ["_law_purse_here", "_law_some", "_law_tokens", "_law_forms", "_law_firsts", "_law_form", "_law_word_here"]
theorem scShort : FnScope nSh ["_law_purse_here"] (defScope sShort) := ⟨rfl, rfl, rfl, by decide +kernel, rfl, by decide +kernel, by decide +kernel⟩
def some13 : List Str := ["a", "b", "c", "z", "aa", "ab", "az", "ba", "zz", "aaa", "+", "if", "y"]
theorem some13_ok : some13.Nodup ∧ ∀ x ∈ some13, x ≠ hole ∧ x ≠ noS ∧ x.length ≤ 8 ∧ isFixed (cp x) = true ∧ (x ≠ Str.ofString "+" → isWord (cp x) = true) := by decide +kernel
/-- the numbers' texts, by the tokens drawn -/
def mOf (zs : List Str) (i : Nat) : Str := if i < 9 then zs.getD i noS else if i = 9 then hole else noS
theorem mOf_lt {zs : List Str} {i : Nat} (h : i < 9) (hl : 9 ≤ zs.length) : ∃ hi : i < zs.length, mOf zs i = zs[i] := by
  refine ⟨by omega, ?_⟩
  unfold mOf
  rw [if_pos h, List.getD_eq_getElem?_getD, List.getElem?_eq_getElem (by omega)]
  rfl
theorem nodup_at {α : Type} {l : List α} (h : l.Nodup) {i j : Nat} (hi : i < l.length) (hj : j < l.length) (e : l[i] = l[j]) : i = j := by
  have p := List.pairwise_iff_getElem.mp h
  rcases Nat.lt_trichotomy i j with c | c | c
  · exact absurd e (p i j hi hj c)
  · exact c
  · exact absurd e.symm (p j i hj hi c)
theorem mOf_ok {zs : List Str} (hp : zs.Perm some13) : Nm9 (mOf zs) := by
  obtain ⟨hn, hall⟩ := some13_ok
  have hlen : zs.length = 13 := hp.length_eq
  have hnd : zs.Nodup := hp.nodup_iff.mpr hn
  have mem : ∀ i, i < 9 → mOf zs i ∈ some13 := fun i hi => by
    obtain ⟨h1, h2⟩ := mOf_lt (zs := zs) hi (by omega)
    rw [h2]
    exact hp.mem_iff.mp (List.getElem_mem h1)
  have m9 : mOf zs 9 = hole := rfl
  have m10 : mOf zs 10 = noS := rfl
  have hn : hole ≠ noS := by decide +kernel
  refine ⟨fun i j hi hj e => ?_, rfl, rfl, fun i hi => ⟨(hall _ (mem i hi)).2.2.1, (hall _ (mem i hi)).2.2.2.1⟩⟩
  rcases Nat.lt_or_ge i 9 with i9 | i9
  · rcases Nat.lt_or_ge j 9 with j9 | j9
    · obtain ⟨h1, h2⟩ := mOf_lt (zs := zs) i9 (by omega)
      obtain ⟨h3, h4⟩ := mOf_lt (zs := zs) j9 (by omega)
      rw [h2, h4] at e
      exact nodup_at hnd h1 h3 e
    · have : j = 9 ∨ j = 10 := by omega
      rcases this with rfl | rfl
      · exact absurd (e.trans m9) (hall _ (mem i i9)).1
      · exact absurd (e.trans m10) (hall _ (mem i i9)).2.1
  · have hi' : i = 9 ∨ i = 10 := by omega
    rcases Nat.lt_or_ge j 9 with j9 | j9
    · rcases hi' with rfl | rfl
      · exact absurd (e.symm.trans m9) (hall _ (mem j j9)).1
      · exact absurd (e.symm.trans m10) (hall _ (mem j j9)).2.1
    · have hj' : j = 9 ∨ j = 10 := by omega
      rcases hi' with rfl | rfl <;> rcases hj' with rfl | rfl
      · rfl
      · exact absurd (m9.symm.trans (e.trans m10)) hn
      · exact absurd (m9.symm.trans (e.symm.trans m10)) hn
      · rfl
theorem perm_strs {ys : List V} {xs : List Str} (h : ys.Perm (xs.map V.str)) : ∃ zs : List Str, ys = zs.map V.str ∧ zs.Perm xs := by
  let g : V → Str := fun v => match v with | .str x => x | _ => noS
  refine ⟨ys.map g, ?_, ?_⟩
  · rw [List.map_map]
    have : ∀ y ∈ ys, (V.str ∘ g) y = y := fun y hy => by
      obtain ⟨x, _, rfl⟩ := List.mem_map.mp (h.mem_iff.mp hy)
      rfl
    conv => lhs; rw [← List.map_id ys]
    exact List.map_congr_left fun y hy => (this y hy).symm
  · have := h.map g
    rw [List.map_map] at this
    have e : (g ∘ V.str) = id := rfl
    rwa [e, List.map_id] at this
theorem perm_map {α β : Type} {f : α → β} : ∀ {xs : List α} {ys : List β}, ys.Perm (xs.map f) → ∃ zs : List α, ys = zs.map f ∧ zs.Perm xs := by
  have go : ∀ {ys us : List β}, ys.Perm us → ∀ xs : List α, us = xs.map f → ∃ zs : List α, ys = zs.map f ∧ zs.Perm xs := by
    intro ys us h
    induction h with
    | nil =>
      intro xs e
      exact ⟨xs, e, .refl _⟩
    | cons x _ ih =>
      intro xs e
      cases xs with
      | nil => cases e
      | cons y xs =>
        injection e with e1 e2
        obtain ⟨zs, h1, h2⟩ := ih xs e2
        exact ⟨y :: zs, by rw [e1, h1]; rfl, h2.cons _⟩
    | swap x y l =>
      intro xs e
      match xs, e with
      | a :: b :: xs, e =>
        injection e with e1 e2
        injection e2 with e2 e3
        exact ⟨b :: a :: xs, by rw [e1, e2, e3]; rfl, .swap ..⟩
    | trans _ _ ih1 ih2 =>
      intro xs e
      obtain ⟨zs, h1, h2⟩ := ih2 xs e
      obtain ⟨ws, h3, h4⟩ := ih1 zs h1
      exact ⟨ws, h3, h4.trans h2⟩
  exact fun {xs ys} h => go h xs rfl
theorem perm_paired {α : Type} {F : V → α → Prop} {ys xs : List V} (h : ys.Perm xs) : ∀ {cs : List α}, Paired F xs cs → ∃ ds : List α, ds.Perm cs ∧ Paired F ys ds := by
  induction h with
  | nil => intro cs hp; exact ⟨cs, .refl _, hp⟩
  | cons x _ ih =>
    intro cs hp
    cases hp with
    | cons a t =>
      obtain ⟨ds, h1, h2⟩ := ih t
      exact ⟨_ :: ds, h1.cons _, .cons a h2⟩
  | swap x y l =>
    intro cs hp
    cases hp with
    | cons a t =>
      cases t with
      | cons b t => exact ⟨_ :: _ :: _, .swap .., .cons b (.cons a t)⟩
  | trans _ _ ih1 ih2 =>
    intro cs hp
    obtain ⟨ds, h1, h2⟩ := ih2 hp
    obtain ⟨es, h3, h4⟩ := ih1 h2
    exact ⟨es, h3.trans h1, h4⟩
theorem paired_take {α : Type} {F : V → α → Prop} : ∀ {xs : List V} {cs : List α} (i : Nat), Paired F xs cs → Paired F (xs.take i) (cs.take i)
  | _, _, 0, _ => by rw [List.take_zero, List.take_zero]; exact .nil
  | _, _, _ + 1, .nil => .nil
  | _, _, i + 1, .cons a t => .cons a (paired_take i t)
theorem ET_sq {K : PySem.W.Frag} {H : Hp} {a : Addr} {xs : List V} (h : ET H a xs) : SqT K H a xs := ND.ET.sq h
theorem ET.keepP {H H' : Hp} {a b : Addr} {xs : List V} (hp : PurseAt H a) (k : Keep a H H') : ET H b xs → ET H' b xs := fun ⟨o, h, r⟩ => ⟨o, k _ _ (no_purse' hp h fun _ z => by cases z) h, r⟩
theorem FormAt.keepP {H H' : Hp} {a : Addr} {v : V} {f : Fm} (hp : PurseAt H a) (k : Keep a H H') : FormAt H v f → FormAt H' v f := fun ⟨b, ap, al, e, h1, h2, h3⟩ => ⟨b, ap, al, e, K2.ET.keepP hp k h1, K2.ET.keepP hp k h2, K2.ET.keepP hp k h3⟩
/-! ### the forms' displays -/
def tPat (K : PySem.W.Frag) : List Nat → TA
  | [] => tNil
  | 9 :: p => tCons (tC (.str "_")) (tPat K p)
  | i :: p => tCons (tOp (rIxL K) (tVar 2) (tC (.int (i : Int)))) (tPat K p)
def tInts : List Int → TA
  | [] => tNil
  | i :: p => tCons (tC (.int i)) (tInts p)
def tForm (K : PySem.W.Frag) (c : Cf) : TE := tTupF (tCons (tTupF (tPat K c.p)) (tCons (tC (.int c.l)) (tCons (tTupF (tInts c.ls)) tNil)))
def tForms (K : PySem.W.Frag) : List Cf → TA
  | [] => tNil
  | c :: cs => tCons (tForm K c) (tForms K cs)
section
variable {K : PySem.W.Frag} {zs : List Str} {σ : L2.St} {t : Addr}
theorem ints_run {H : Hp} : ∀ {ys : List Int} {Q : List V → Hp → Prop}, Q (ys.map V.int) H → tInts ys σ H Q
  | [], _, h => h
  | y :: ys, Q, h => ints_run (ys := ys) (Q := fun xs H2 => Q (.int y :: xs) H2) h
theorem pat_run {H : Hp} (hσ : σ[2]? = some (some (.ref t))) (e : H t = some (.lst ((zs.take 9).map V.str))) (hl : 9 ≤ zs.length) : ∀ {p : List Nat} {Q : List V → Hp → Prop}, (∀ x ∈ p, x ≤ 9) → Q ((p.map (mOf zs)).map V.str) H → tPat K p σ H Q
  | [], _, _, h => h
  | x :: p, Q, h9, h => by
    have ih := @pat_run H hσ e hl p (fun xs H2 => Q (.str (mOf zs x) :: xs) H2) (fun y hy => h9 y (List.mem_cons_of_mem _ hy)) h
    have hx := h9 x List.mem_cons_self
    rcases Nat.lt_or_ge x 9 with lt | ge
    · have e1 : tPat K (x :: p) = tCons (tOp (rIxL K) (tVar 2) (tC (.int (x : Int)))) (tPat K p) := by
        match x, lt with
        | 0, _ => rfl
        | 1, _ => rfl
        | 2, _ => rfl
        | 3, _ => rfl
        | 4, _ => rfl
        | 5, _ => rfl
        | 6, _ => rfl
        | 7, _ => rfl
        | 8, _ => rfl
      rw [e1]
      refine ⟨_, hσ, t, _, _, _, rfl, rfl, SqL.of e, atI_nat (j := x) ?_, ih⟩
      obtain ⟨h1, h2⟩ := mOf_lt (zs := zs) lt hl
      rw [h2, List.getElem?_map, List.getElem?_take_of_lt lt, List.getElem?_eq_getElem h1]
      rfl
    · obtain rfl : x = 9 := by omega
      exact ih
theorem form_run {H : Hp} {Q : VK} {c : Cf} (hσ : σ[2]? = some (some (.ref t))) (e : H t = some (.lst ((zs.take 9).map V.str))) (hl : 9 ≤ zs.length) (h9 : ∀ x ∈ c.p, x ≤ 9) (h7 : c.p.length ≤ 7) (h3 : c.ls.length ≤ 7)
    (q : ∀ v H', Same H H' → FormAt H' v (mF (mOf zs) c) → Q v H') : tForm K c σ H Q := by
  refine pat_run (zs := zs) hσ e hl h9 ⟨by rw [List.length_map, List.length_map]; exact sz _ (by omega), fun ap o1 n1 t1 => ?_⟩
  have s1 := same_upd (o := .frz o1 (.tup ((c.p.map (mOf zs)).map V.str))) n1
  refine ints_run ⟨by rw [List.length_map]; exact sz _ (by omega), fun al o2 n2 t2 => ?_⟩
  have s2 := same_upd (o := .frz o2 (.tup (c.ls.map V.int))) n2
  refine ⟨sz 3 (by decide), fun b o3 n3 t3 => ?_⟩
  have s3 := same_upd (o := .frz o3 (.tup [.ref ap, .int c.l, .ref al])) n3
  exact q _ _ ((s1.trans s2).trans s3) ⟨b, ap, al, rfl, t3, (t1.same s2).same s3, t2.same s3⟩
theorem forms_run (hσ : σ[2]? = some (some (.ref t))) (hl : 9 ≤ zs.length) : ∀ {cs : List Cf} {H : Hp} {Q : List V → Hp → Prop}, H t = some (.lst ((zs.take 9).map V.str)) → (∀ c ∈ cs, c ∈ cfs) → (∀ vs H', Same H H' → Paired (FormAt H') vs (cs.map (mF (mOf zs))) → Q vs H') → tForms K cs σ H Q
  | [], H, Q, _, _, q => q [] H (Same.refl H) .nil
  | c :: cs, H, Q, e, hc, q => by
    have h := cfs_pat c (hc c List.mem_cons_self)
    show tForm K c σ H (fun x H1 => tForms K cs σ H1 fun xs H2 => Q (x :: xs) H2)
    refine form_run (zs := zs) (t := t) hσ e hl (cfs9 c (hc c List.mem_cons_self)) h.2.1 (by have := h.2.2.2.2.2.2.2.1; have := h.2.2.1; omega) fun v H1 s1 hv => ?_
    exact forms_run hσ hl (cs := cs) (s1 _ _ e) (fun d hd => hc d (List.mem_cons_of_mem _ hd)) fun vs H2 s2 hvs => q (v :: vs) H2 (s1.trans s2) (.cons (hv.same s2) hvs)
end
theorem foldS_nd : ∀ (l acc : List Str), acc.Nodup → (l.foldl TX.addS acc).Nodup
  | [], _, h => h
  | x :: l, acc, h => by
    rw [List.foldl_cons]
    refine foldS_nd l _ ?_
    unfold TX.addS
    split
    · exact h
    · rename_i c
      exact List.nodup_cons.mpr ⟨c, h⟩
section
variable {P : Program} {w : World} {K : PySem.W.Frag} {mg : Str → Option Value} {base : Heap}
/-- forms and hard words of a sound edition -/
structure ShortE (H : Hp) (fl hl : Addr) (fs : List Fm) (hard : List Str) : Prop where
  fl : ∃ xs, H fl = some (.lst xs) ∧ Paired (FormAt H) xs fs
  hl : H hl = some (.lst (hard.map V.str))
  nd : hard.Nodup
  words : ∀ x ∈ hard, x.length ≤ 1000 ∧ isWord (cp x) = true
  sound : Sound fs hard
  few : fs.length ≤ 6 ∧ hard.length ≤ 6
  toks : ∀ f ∈ fs, ∀ x ∈ f.pat, x = hole ∨ x ∈ some13
def spShort : Sp := fun vs H Q _ => ∃ (a : Addr) (n : Nat), vs = [.ref a] ∧ Purse H a n ∧ n < 2 ^ 22 ∧ ∀ (p fl hl : Addr) (fs : List Fm) (hard : List Str) H', H p = none → H fl = none → H hl = none → Keep a H H' → Purse H' a (n + 40) → H' p = some (.lst [.ref fl, .ref hl]) → ShortE H' fl hl fs hard → Q (.ref p) H'
theorem ok_short {f : Addr} {fd : FuncData} (F : Fun K "_law_short_edition" "_law_short_edition" sShort f fd) (draw : Fx P w K mg base CX0 2 "_law_draw" ["_law_purse_here", "_law_many"] spDraw)
    (shuf : Fx P w K mg base CX0 3 "_law_shuffled" ["_law_purse_here", "_law_some"] (spShuf K)) (ms : mg "sorted" = none) (mse : mg "set" = none) : FnOk P w K mg base CX0 4 f fd ["_law_purse_here"] spShort := by
  refine F.ok scShort (fun vs H Q E h => ?_) (fun cdv A outer s H vs Q E hr h => ?_)
  · obtain ⟨a, n, rfl, _⟩ := h
    rfl
  · obtain ⟨a, n, rfl, hP, hn, q⟩ := h
    have nd := scShort.nd
    have r2 := hr.mono (by decide : 2 ≤ 3)
    have hu3 : (A.deeper (envOfC "_law_short_edition" (defScope sShort) s.heap.objs.size f cdv)).units + 3 < cLine := by have := hr.un; omega
    refine ⟨_, pss_cons (ps_set (i := 1) nd rfl (.inl rfl) (pe_lst (show PA _ _ (tStrs3 some13) from (pa_cons pe_str (pa_cons pe_str (pa_cons pe_str (pa_cons pe_str (pa_cons pe_str (pa_cons pe_str (pa_cons pe_str (pa_cons pe_str (pa_cons pe_str (pa_cons pe_str (pa_cons pe_str (pa_cons pe_str (pa_cons pe_str pa_nil))))))))))))))))
      (pss_cons (ps_set (i := 2) nd rfl (.inl rfl) (pe_slice sl_list (pe_call shuf.G hr (by rfl) shuf.g shuf.kp shuf.b .nil pass0 (pa_cons (pv 0) (pa_cons (pv 1) pa_nil))) po_none (po_some pe_int)))
      (pss_cons (ps_set (i := 3) nd rfl (.inl rfl) (pe_lst (show PA _ _ (tForms K [⟨[0, 9, 1, 9], 3, [0, 3]⟩, ⟨[9, 2, 9], 5, [5, 6]⟩, ⟨[3, 9], 9, [0]⟩]) from (pa_cons (pe_tupF (pa_cons (pe_tupF (pa_cons (pe_ix ix_list (pv 2) pe_int (fun _ _ => rfl)) (pa_cons pe_str (pa_cons (pe_ix ix_list (pv 2) pe_int (fun _ _ => rfl)) (pa_cons pe_str pa_nil))))) (pa_cons pe_int (pa_cons (pe_tupF (pa_cons pe_int (pa_cons pe_int pa_nil))) pa_nil)))) (pa_cons (pe_tupF (pa_cons (pe_tupF (pa_cons pe_str (pa_cons (pe_ix ix_list (pv 2) pe_int (fun _ _ => rfl)) (pa_cons pe_str pa_nil)))) (pa_cons pe_int (pa_cons (pe_tupF (pa_cons pe_int (pa_cons pe_int pa_nil))) pa_nil)))) (pa_cons (pe_tupF (pa_cons (pe_tupF (pa_cons (pe_ix ix_list (pv 2) pe_int (fun _ _ => rfl)) (pa_cons pe_str pa_nil))) (pa_cons pe_int (pa_cons (pe_tupF (pa_cons pe_int pa_nil)) pa_nil)))) pa_nil))))))
      (pss_cons (ps_set (i := 3) nd rfl (.inl rfl) (pe_op op_cat (pv 3) (pe_lst (show PA _ _ (tForms K [⟨[9, 4, 5], 1, [1]⟩, ⟨[6, 7, 9], 2, [2]⟩]) from (pa_cons (pe_tupF (pa_cons (pe_tupF (pa_cons pe_str (pa_cons (pe_ix ix_list (pv 2) pe_int (fun _ _ => rfl)) (pa_cons (pe_ix ix_list (pv 2) pe_int (fun _ _ => rfl)) pa_nil)))) (pa_cons pe_int (pa_cons (pe_tupF (pa_cons pe_int pa_nil)) pa_nil)))) (pa_cons (pe_tupF (pa_cons (pe_tupF (pa_cons (pe_ix ix_list (pv 2) pe_int (fun _ _ => rfl)) (pa_cons (pe_ix ix_list (pv 2) pe_int (fun _ _ => rfl)) (pa_cons pe_str pa_nil)))) (pa_cons pe_int (pa_cons (pe_tupF (pa_cons pe_int pa_nil)) pa_nil)))) pa_nil))))))
      (pss_cons (ps_set (i := 3) nd rfl (.inl rfl) (pe_op op_cat (pv 3) (pe_lst (show PA _ _ (tForms K [⟨[0, 9, 1, 9, 8, 9], 3, [0, 3, 3]⟩]) from (pa_cons (pe_tupF (pa_cons (pe_tupF (pa_cons (pe_ix ix_list (pv 2) pe_int (fun _ _ => rfl)) (pa_cons pe_str (pa_cons (pe_ix ix_list (pv 2) pe_int (fun _ _ => rfl)) (pa_cons pe_str (pa_cons (pe_ix ix_list (pv 2) pe_int (fun _ _ => rfl)) (pa_cons pe_str pa_nil))))))) (pa_cons pe_int (pa_cons (pe_tupF (pa_cons pe_int (pa_cons pe_int (pa_cons pe_int pa_nil)))) pa_nil)))) pa_nil)))))
      (pss_cons (ps_set (i := 3) nd rfl (.inl rfl) (pe_slice sl_list (pe_call shuf.G hr (by rfl) shuf.g shuf.kp shuf.b .nil pass0 (pa_cons (pv 0) (pa_cons (pv 3) pa_nil))) po_none (po_some (pe_call draw.G r2 (by rfl) draw.g draw.kp draw.b .nil pass0 (pa_cons (pv 0) (pa_cons pe_int pa_nil))))))
      (pss_cons (ps_set (i := 4) nd rfl (.inl rfl) (pe_callB (r := rSortX P w) (cr_sortX rfl hu3) (by rfl) ms boot_sorted (pa_cons (pe_callTy (r := rSetX K P w) (cr_setX rfl) (by rfl) mse boot_set (pa_cons
          (pe_lc (own := [("_law_form", 5)]) (g := gName 5) rfl nd (pi_list (pv 3)) (blkOk_by (own := [("_law_form", 5)]) (N := nSh) (sc := defScope sShort) (by decide +kernel)) (fun _ _ _ _ _ => pg_name (i := 5) nd rfl (Or.inl rfl))
            (fun _ _ _ _ _ => pts_one (pt_cmpR (r := rIn K true) op_notIn_seq (pe_ix (r := rIxT K) ix_tup (pe_ix (r := rIxT K) ix_tup (pv 5) pe_int (fun _ _ => rfl)) pe_int (fun _ _ => rfl)) (pe_tup (pa_cons pe_str (pa_cons pe_str pa_nil))) (by rfl)))
            (fun _ _ _ _ _ => pe_ix (r := rIxT K) ix_tup (pe_ix (r := rIxT K) ix_tup (pv 5) pe_int (fun _ _ => rfl)) pe_int (fun _ _ => rfl))) pa_nil)) pa_nil)))
      (pss_one (ps_ret (pe_lst (pa_cons (pv 3) (pa_cons (pe_lc (own := [("_law_word_here", 6)]) (g := gName 6) rfl nd (pi_list (pv 4)) (blkOk_by (own := [("_law_word_here", 6)]) (N := nSh) (sc := defScope sShort) (by decide +kernel)) (fun _ _ _ _ _ => pg_name (i := 6) nd rfl (Or.inl rfl))
            (fun _ _ _ _ _ => pts_one (pt_cmpR op_eq (pe_call draw.G r2 (by rfl) draw.g draw.kp draw.b .nil pass0 (pa_cons (pv 0) (pa_cons pe_int pa_nil))) pe_int (nomark _))) (fun _ _ _ _ _ => pv 6)) pa_nil))))))))))), ?_⟩
    have aneq : ∀ {b : Addr} {H' : Hp}, H' b = none → Purse H' a n → b ≠ a := fun hb hp e => aD_of hp hb e.symm
    -- the tokens
    refine strs3_run ⟨by decide +kernel, fun l1 n1 => ?_⟩
    have s1 := same_upd (o := .lst (some13.map V.str)) n1
    refine ⟨.ref a, rfl, .ref l1, rfl, a, l1, some13.map V.str, n, rfl, hP.same s1, by omega, SqL.of upd_same, aneq n1 hP, by decide, fun d ys H1 pm k1 P1 nd1 da e1 => ?_⟩
    obtain ⟨zs, rfl, hz⟩ := perm_strs pm
    have lz : zs.length = 13 := hz.length_eq
    have P1' : Purse H1 a (n + 13) := P1
    refine ⟨9, rfl, d, _, rfl, SqL.of e1, fun t nt => ?_⟩
    have s2 := same_upd (o := .lst (cutV (zs.map V.str) none (some 9))) nt
    have et : (upd H1 t (.lst (cutV (zs.map V.str) none (some 9)))) t = some (.lst ((zs.take 9).map V.str)) := by
      rw [upd_same]
      exact congrArg (fun q => some (HO.lst q)) (cut_upto zs 9 (by omega))
    have P2 := P1'.same s2
    have k2 : Keep a H (upd H1 t (.lst (cutV (zs.map V.str) none (some 9)))) := ((Same.keep s1).trans k1).trans (Same.keep s2)
    generalize upd H1 t (.lst (cutV (zs.map V.str) none (some 9))) = H2 at et P2 k2
    have N := mOf_ok hz
    have hin : ∀ (l r : List Cf), l ++ r = cfs → (∀ c ∈ l, c ∈ cfs) ∧ ∀ c ∈ r, c ∈ cfs := fun l r e => ⟨fun c hc => e ▸ List.mem_append_left _ hc, fun c hc => e ▸ List.mem_append_right _ hc⟩
    -- the forms
    refine forms_run (zs := zs) (t := t) rfl (by omega) et (by decide) fun v0 H3 s3 p3 => ?_
    have l0 := pairs_len p3
    refine ⟨by rw [l0]; exact sz 3 (by decide), fun f0 nf0 => ?_⟩
    have sf0 := same_upd (o := .lst v0) nf0
    refine ⟨_, rfl, ?_⟩
    refine forms_run (zs := zs) (t := t) rfl (by omega) ((s3.trans sf0) _ _ et) (by decide) fun v1 H4 s4 p4 => ?_
    have l1' := pairs_len p4
    refine ⟨by rw [l1']; exact sz 2 (by decide), fun f1 nf1 => ?_⟩
    have sf1 := same_upd (o := .lst v1) nf1
    refine ⟨f0, f1, _, _, rfl, rfl, (s4.trans sf1) _ _ upd_same, upd_same, by rw [l0, l1']; exact sz 5 (by decide), fun f2 nf2 => ?_⟩
    have sf2 := same_upd (o := .lst (v0 ++ v1)) nf2
    have s05 := ((s3.trans sf0).trans (s4.trans sf1)).trans sf2
    refine ⟨_, rfl, ?_⟩
    refine forms_run (zs := zs) (t := t) rfl (by omega) (s05 _ _ et) (by decide) fun v2 H5 s5 p5 => ?_
    have l2' := pairs_len p5
    refine ⟨by rw [l2']; exact sz 1 (by decide), fun f3 nf3 => ?_⟩
    have sf3 := same_upd (o := .lst v2) nf3
    refine ⟨f2, f3, _, _, rfl, rfl, (s5.trans sf3) _ _ upd_same, upd_same, by rw [List.length_append, l0, l1', l2']; exact sz 6 (by decide), fun f4 nf4 => ?_⟩
    have sf4 := same_upd (o := .lst (v0 ++ v1 ++ v2)) nf4
    have s6 := (s5.trans sf3).trans sf4
    have hall : Paired (FormAt (upd (upd H5 f3 (.lst v2)) f4 (.lst (v0 ++ v1 ++ v2)))) (v0 ++ v1 ++ v2) (cfs.map (mF (mOf zs))) := by
      have q0 := prs_keep (fun h => FormAt.same (((sf0.trans (s4.trans sf1)).trans sf2).trans s6) h) p3
      have q1 := prs_keep (fun h => FormAt.same ((sf1.trans sf2).trans s6) h) p4
      have q2 := prs_keep (fun h => FormAt.same (sf3.trans sf4) h) p5
      exact paired_app (paired_app q0 q1) q2
    have l6 : (v0 ++ v1 ++ v2).length = 6 := by rw [List.length_append, List.length_append, l0, l1', l2']; rfl
    have e4 : (upd (upd H5 f3 (.lst v2)) f4 (.lst (v0 ++ v1 ++ v2))) f4 = some (.lst (v0 ++ v1 ++ v2)) := upd_same
    have P6 := P2.same (s05.trans s6)
    have k6 := k2.trans (Same.keep (a := a) (s05.trans s6))
    have f4a : f4 ≠ a := fun e => aD_of (P2.same (s05.trans (s5.trans sf3))) nf4 e.symm
    generalize upd (upd H5 f3 (.lst v2)) f4 (.lst (v0 ++ v1 ++ v2)) = H6 at hall e4 P6 k6
    generalize v0 ++ v1 ++ v2 = vs at hall e4 l6
    -- in another order, some of them
    refine ⟨.ref a, rfl, .ref f4, rfl, a, f4, vs, _, rfl, P6, by omega, SqL.of e4, f4a, by omega, fun d2 ys2 H7 pm2 k7 P7 nd7 d2a e7 => ?_⟩
    rw [l6] at P7
    obtain ⟨fs6, hfs, hp7⟩ := perm_paired pm2 (prs_keep (fun h => FormAt.keepP (PurseAt.of P6) k7 h) hall)
    obtain ⟨cs6, rfl, hcs⟩ : ∃ cs : List Cf, fs6 = cs.map (mF (mOf zs)) ∧ cs.Perm cfs := by
      clear hp7
      exact perm_map hfs
    refine ⟨.ref a, rfl, a, 7, _, rfl, P7, by omega, by decide, by decide, fun r H8 r0 r1 k8 P8 => ?_⟩
    have e8 := k8 _ _ d2a e7
    have hp8 := prs_keep (fun h => FormAt.keepP (PurseAt.of P7) k8 h) hp7
    refine ⟨r, rfl, d2, ys2, rfl, SqL.of e8, fun fl nfl => ?_⟩
    have s9 := same_upd (o := .lst (cutV ys2 none (some r))) nfl
    have ecut : cutV ys2 none (some r) = ys2.take r.toNat := by
      obtain ⟨j, rfl⟩ : ∃ j : Nat, r = (j : Int) := ⟨r.toNat, by omega⟩
      have ly : ys2.length = 6 := by rw [pm2.length_eq, l6]
      unfold cutV
      rw [HT.sIx_nat]
      show (ys2.drop 0).take (min j ys2.length - 0) = _
      rw [List.drop_zero, Nat.sub_zero, Nat.min_eq_left (by omega)]
      rfl
    have ec9 : (upd H8 fl (.lst (cutV ys2 none (some r)))) fl = some (.lst (ys2.take r.toNat)) := by rw [upd_same, ecut]
    have hp9 := prs_keep (fun h => FormAt.same s9 h) (paired_take r.toNat hp8)
    rw [← List.map_take] at hp9
    have P9 := P8.same s9
    have k9 := ((k6.trans k7).trans k8).trans (Same.keep (a := a) s9)
    have fla : fl ≠ a := fun e => aD_of P8 nfl e.symm
    have hcin : ∀ c ∈ cs6.take r.toNat, c ∈ cfs := fun c hc => hcs.mem_iff.mp (List.mem_of_mem_take hc)
    have hcnd : (cs6.take r.toNat).Nodup := List.Nodup.sublist (List.take_sublist _ _) (hcs.nodup_iff.mpr (by decide))
    generalize upd H8 fl (.lst (cutV ys2 none (some r))) = H9 at ec9 hp9 P9 k9
    generalize cs6.take r.toNat = cs at hp9 hcin hcnd
    have lxs : (ys2.take r.toNat).length ≤ 6 := by
      have := List.length_take_le' r.toNat ys2
      have ly : ys2.length = 6 := by rw [pm2.length_eq, l6]
      omega
    generalize ys2.take r.toNat = xs at ec9 hp9 lxs
    have lcs : cs.length = xs.length := by
      have := pairs_len hp9
      rw [List.length_map] at this
      exact this.symm
    -- the first words
    refine ⟨_, rfl, fl, rfl, ⟨_, SqL.of ec9⟩, fun D nD => ?_⟩
    refine lc_list (xs := xs) (fun i H' => Same H9 H' ∧ ∃ L : List Str, H' D = some (.lst (L.map V.str)) ∧ L.length ≤ i ∧ ∀ x ∈ L, x ≠ Str.ofString "+" ∧ ∃ c ∈ cs, c.p.getD 0 9 ≠ 9 ∧ x = mOf zs (c.p.getD 0 9)) ⟨same_upd nD, [], upd_same, Nat.le_refl _, fun x h => nomatch h⟩ (fun i H' _ h => SqL.of (h.1 _ _ ec9)) ?_ ?_
    · rintro i x HA hx ⟨sA, L, eD, lL, hL⟩
      obtain ⟨fm, hfi, hfm⟩ := prs_get hp9 hx
      rw [List.getElem?_map] at hfi
      obtain ⟨c, hci, rfl⟩ := Option.map_eq_some_iff.mp hfi
      have hcm := List.mem_of_getElem? hci
      have hi : i < xs.length := (List.getElem?_eq_some_iff.mp hx).1
      obtain ⟨b, ap, al, rfl, t1, t2, t3⟩ := hfm.same sA
      have at0 : atI (((mF (mOf zs) c).pat).map V.str) (0 : Int) = some (.str (mOf zs (c.p.getD 0 9))) := by
        have h1 := at_str (c.p.map (mOf zs)) 0 (by rw [List.length_map]; have := (cfs_pat c (hcin c hcm)).1; omega)
        rw [getD_map c.p 0 _ N.hole] at h1
        exact h1
      have c9 := cfs9 c (hcin c hcm)
      refine ⟨rfl, .ref b, rfl, b, _, 0, .ref ap, rfl, rfl, K2.ET_sq t1, atI_nat (j := 0) rfl, ap, _, 0, _, rfl, rfl, K2.ET_sq t2, at0, sz 2 (by decide), fun tp ntp => ?_⟩
      have st := same_upd (o := .tup [V.str "_", .str "+"]) ntp
      refine ⟨tp, [V.str "_", .str "+"], rfl, .inr (SqT.of upd_same), rfl, rfl, _, rfl, ?_⟩
      have hin : inV (.str (mOf zs (c.p.getD 0 9))) [V.str "_", .str "+"] = decide (mOf zs (c.p.getD 0 9) ∈ [hole, Str.ofString "+"]) := inV_strs _ [hole, Str.ofString "+"]
      rw [if_pos rfl, hin]
      by_cases cc : mOf zs (c.p.getD 0 9) ∈ [hole, Str.ofString "+"]
      · rw [decide_eq_true cc]
        exact iteF ⟨sA.trans st, L, st _ _ eD, by omega, hL⟩
      · rw [decide_eq_false cc]
        refine iteT ⟨.ref b, rfl, b, _, 0, .ref ap, rfl, rfl, K2.ET_sq (t1.same st), atI_nat (j := 0) rfl, ap, _, 0, _, rfl, rfl, K2.ET_sq (t2.same st), at0, _, st _ _ eD, ?_, same_over nD (sA.trans st), L ++ [mOf zs (c.p.getD 0 9)], ?_, ?_, fun y hy => ?_⟩
        · rw [List.length_map]
          have := sz 100 (by decide)
          omega
        · rw [upd_same, List.map_append]
          rfl
        · rw [List.length_append]
          simp
          omega
        · rw [List.mem_append, List.mem_singleton] at hy
          rcases hy with h | rfl
          · exact hL y h
          · refine ⟨fun e => cc (by rw [e]; simp), c, hcm, fun e => cc ?_, rfl⟩
            rw [e, N.hole]
            simp
    rintro HA ⟨sA, L, eD, lL, hL⟩
    refine ⟨D, L, rfl, SqL.of eD, by omega, fun S nS => ?_⟩
    have sS := same_upd (o := SetX P w S (L.foldl TX.addS [])) nS
    have hfl := foldS_len L []
    rw [List.length_nil] at hfl
    refine ⟨S, _, rfl, upd_same, by omega, fun d3 zs3 nd3 pm3 => ?_⟩
    have pmR := (List.mergeSort_perm zs3 (PySem.W.dataLe false PyData.str)).trans pm3
    have sR := same_upd (o := .lst ((zs3.mergeSort (PySem.W.dataLe false PyData.str)).map V.str)) nd3
    have eR : (upd (upd HA S (SetX P w S (L.foldl TX.addS []))) d3 (.lst ((zs3.mergeSort (PySem.W.dataLe false PyData.str)).map V.str))) d3 = some (.lst ((zs3.mergeSort (PySem.W.dataLe false PyData.str)).map V.str)) := upd_same
    have s9R := (sA.trans sS).trans sR
    have PR := P9.same s9R
    have d3a : d3 ≠ a := fun e => aD_of (P9.same (sA.trans sS)) nd3 e.symm
    have hRn : (zs3.mergeSort (PySem.W.dataLe false PyData.str)).Nodup := pmR.nodup_iff.mpr (foldS_nd L [] List.nodup_nil)
    have hRm : ∀ x ∈ zs3.mergeSort (PySem.W.dataLe false PyData.str), x ≠ Str.ofString "+" ∧ ∃ c ∈ cs, c.p.getD 0 9 ≠ 9 ∧ x = mOf zs (c.p.getD 0 9) := fun x hx => by
      have := (foldS_mem L []).mp (pmR.mem_iff.mp hx)
      rcases this with h | h
      · exact hL x h
      · cases h
    have hRl : (zs3.mergeSort (PySem.W.dataLe false PyData.str)).length ≤ 6 := by rw [pmR.length_eq]; omega
    generalize upd (upd HA S (SetX P w S (L.foldl TX.addS []))) d3 (.lst ((zs3.mergeSort (PySem.W.dataLe false PyData.str)).map V.str)) = HB at eR s9R PR
    generalize zs3.mergeSort (PySem.W.dataLe false PyData.str) = R at eR hRn hRm hRl
    -- the hard ones
    refine ⟨_, rfl, .ref d3, rfl, d3, rfl, ⟨_, SqL.of eR⟩, fun D2 nD2 => ?_⟩
    have D2a : D2 ≠ a := fun e => aD_of PR nD2 e.symm
    refine lc_list (xs := R.map V.str) (fun i H' => Keep a HB H' ∧ Purse H' a (n + 20 + i) ∧ ∃ hs : List Str, H' D2 = some (.lst (hs.map V.str)) ∧ hs.Sublist (R.take i)) ⟨Same.keep (same_upd nD2), (PR.same (same_upd nD2)).more (by omega), [], upd_same, by rw [List.take_zero]; exact List.Sublist.refl _⟩ (fun i H' _ h => SqL.of (h.1 _ _ d3a eR)) ?_ ?_
    · rintro i x HC hx ⟨kC, PC, hs, eH, hsub⟩
      obtain ⟨z, hz2, rfl⟩ := get_strs hx
      obtain ⟨hi, ez⟩ := List.getElem?_eq_some_iff.mp hz2
      have hsl := hsub.length_le
      rw [List.length_take] at hsl
      refine ⟨rfl, .ref a, rfl, a, 2, _, rfl, PC, by omega, by decide, by decide, fun r' HD' r'0 r'1 kD' PD' => ⟨rfl, _, rfl, ite2 (fun _ => ?_) (fun _ => ?_)⟩⟩
      · refine ⟨.str z, rfl, hs.map V.str, kD' _ _ D2a eH, ?_, fun b o hb hbo => ?_, ?_, hs ++ [z], ?_, ?_⟩
        · rw [List.length_map]
          have := sz 100 (by decide)
          omega
        · rw [upd_ne (ne_of_none hbo nD2)]
          exact kD' _ _ hb (kC _ _ hb hbo)
        · exact (PD'.more (by omega)).keep keep_upd D2a.symm
        · rw [upd_same, List.map_append]
          rfl
        · rw [List.take_succ_eq_append_getElem hi, ez]
          exact hsub.append (List.Sublist.refl _)
      · refine ⟨kC.trans kD', PD'.more (by omega), hs, kD' _ _ D2a eH, ?_⟩
        rw [List.take_succ_eq_append_getElem hi]
        exact hsub.trans (List.sublist_append_left _ _)
    rintro HC ⟨kC, PC, hs, eH, hsub⟩
    rw [List.length_map, List.take_length] at hsub
    rw [List.length_map] at PC
    refine ⟨sz 2 (by decide), fun p np => ?_⟩
    have sp := same_upd (o := .lst [V.ref fl, .ref D2]) np
    have hsm : ∀ x ∈ hs, x ≠ Str.ofString "+" ∧ ∃ c ∈ cs, c.p.getD 0 9 ≠ 9 ∧ x = mOf zs (c.p.getD 0 9) := fun x hx => hRm x (hsub.subset hx)
    have kpC := kC.trans (Same.keep (a := a) sp)
    have kAll := (k9.trans (Same.keep s9R)).trans kC
    refine q p fl D2 (cs.map (mF (mOf zs))) hs _ (none_back kAll (fun e => aD_of PC np e.symm) np) (none_back ((k6.trans k7).trans k8) fla nfl) (none_back (k9.trans (Same.keep s9R)) D2a nD2) ((k9.trans (Same.keep s9R)).trans kpC) ((PC.same sp).more (by omega)) upd_same ⟨⟨xs, kpC _ _ fla (s9R _ _ ec9), ?_⟩, sp _ _ eH, List.Nodup.sublist hsub hRn, fun x hx => ?_, N.sound hcnd hcin fun x hx => (hsm x hx).2, ⟨by rw [List.length_map]; omega, Nat.le_trans hsub.length_le hRl⟩, fun g hg x hx => ?_⟩
    · exact prs_keep (fun h => FormAt.keepP (PurseAt.of PR) kpC (h.same s9R)) hp9
    · obtain ⟨hp, c, hc, h9, rfl⟩ := hsm x hx
      have hlt : c.p.getD 0 9 < 9 := by
        have := getD9 (cfs9 c (hcin c hc)) 0
        omega
      obtain ⟨h1, h2⟩ := mOf_lt (zs := zs) hlt (by omega)
      have hm : mOf zs (c.p.getD 0 9) ∈ some13 := by
        rw [h2]
        exact hz.mem_iff.mp (List.getElem_mem h1)
      have := some13_ok.2 _ hm
      exact ⟨by omega, this.2.2.2.2 hp⟩
    · obtain ⟨c, hc, rfl⟩ := List.mem_map.mp hg
      obtain ⟨y, hy, rfl⟩ := List.mem_map.mp (show x ∈ c.p.map (mOf zs) from hx)
      have hy9 := cfs9 c (hcin c hc) y hy
      rcases Nat.lt_or_ge y 9 with lt | ge
      · obtain ⟨h1, h2⟩ := mOf_lt (zs := zs) lt (by omega)
        rw [h2]
        exact .inr (hz.mem_iff.mp (List.getElem_mem h1))
      · have : y = 9 := by omega
        rw [this]
        exact .inl N.hole
end
end K2

set_option Elab.async false
set_option linter.all false
set_option maxRecDepth 100000
set_option maxHeartbeats 8000000
/-! k03: what is refused for free words -/
namespace K2
open PySem PySem.Spec PyProof.Rows L2 EL LW ND
open Ln (L isTok isWord)
abbrev sRefu : Stmt := topS 95
abbrev nRf : List Str := ["_law_editions", "_law_value", "_law_many"]
theorem scRefu : FnScope nRf ["_law_editions"] (defScope sRefu) := ⟨rfl, rfl, rfl, by decide +kernel, rfl, by decide +kernel, by decide +kernel⟩
/-- which built-in kinds are no editions -/
structure NoEd (K : PySem.W.Frag) (D : Addr) : Prop where
  n : PySem.W.kitOne K (.type "NoneType") (.ref D) = some false
  l : PySem.W.kitOne K (.type "list") (.ref D) = some false
  t : PySem.W.kitOne K (.type "tuple") (.ref D) = some false
  s : PySem.W.kitOne K (.ref D) (.ref D) = some true
theorem EdAt.same {P : Program} {w : World} {D G : Addr} {H H' : Hp} {v : V} {q : List Fm × List Str} (s : Same H H') : EdAt P w D G H v q → EdAt P w D G H' v q := fun ⟨e, r, ⟨dx, l1, l2, g, ys, h0, h1, h2, h3, h4⟩, h5, h6⟩ =>
  ⟨e, r, ⟨dx, l1, l2, g, ys, s _ _ h0, s _ _ h1, prs_keep (fun h => h.keep (TupS.of s)) h2, s _ _ h3, GramAt.same s h4⟩, h5, h6⟩
theorem edat_eq {P : Program} {w : World} {D G : Addr} {H : Hp} {v : V} {q : List Fm × List Str} (h : EdAt P w D G H v q) : ∃ e, v = .ref e ∧ EdEq D H e := by
  obtain ⟨e, rfl, h, _⟩ := h
  exact ⟨e, rfl, edEq_of h⟩
section
variable {P : Program} {w : World} {K : PySem.W.Frag} {mg : Str → Option Value} {base : Heap} {D G : Addr}
theorem EdEq.isE (Z : EdK K D) (ZE : NoEd K D) {H : Hp} {e : Addr} (h : EdEq D H e) : IsE K D H (.ref e) true := by
  obtain ⟨dx, l1, l2, g, ys, zs, e1, _⟩ := h
  exact ⟨.ref D, ZE.s, fun H' s => Z.ty (s _ _ e1)⟩
theorem eds_all (Z : EdK K D) (ZE : NoEd K D) {H : Hp} : ∀ {xs : List V}, (∀ x ∈ xs, ∃ e, x = .ref e ∧ EdEq D H e) → Paired (IsE K D H) xs (xs.map fun _ => true)
  | [], _ => .nil
  | x :: xs, h => by
    obtain ⟨e, rfl, he⟩ := h x List.mem_cons_self
    exact .cons (he.isE Z ZE) (eds_all Z ZE fun y hy => h y (List.mem_cons_of_mem _ hy))
theorem eds_v (Z : EdK K D) (ZE : NoEd K D) {H : Hp} {a : Addr} {xs : List V} (e : H a = some (.lst xs)) (hl : xs.length ≤ 1000) (h : ∀ x ∈ xs, ∃ e, x = .ref e ∧ EdEq D H e) : EdV K D H (.ref a) true :=
  .inl ⟨a, xs, _, rfl, e, hl, eds_all Z ZE h, (all_true xs).symm⟩
theorem eqe_ed {H : Hp} {e : Addr} {k : Nat} (h : EdEq D H e) : EqE D H (k + 2) (.ref e) (.ref e) := .inr (.inr (.inr ⟨e, (show 1 ≤ k + 1 by omega), rfl, rfl, h⟩))
theorem eds_refl {H : Hp} {k : Nat} {xs : List V} (h : ∀ x ∈ xs, ∃ e, x = .ref e ∧ EdEq D H e) : Paired (EqE D H (k + 2)) xs xs := refl_items (a := 0) (H := H) fun x hx => by
  obtain ⟨e, rfl, he⟩ := h x hx
  exact eqe_ed he
/-- an edition stays where a list is changed that is none of its own -/
theorem EdEq.keepL {a : Addr} {H H0 H' : Hp} {e : Addr} (hn : H0 a = none) (h : EdEq D H0 e) (s : Same H0 H) (k : Keep a H H') : EdEq D H' e := by
  obtain ⟨dx, l1, l2, g, ys, zs, e0, e1, e2, h1, h2⟩ := h
  exact ⟨dx, l1, l2, g, ys, zs, k _ _ (ne_of_none e0 hn) (s _ _ e0), k _ _ (ne_of_none e1 hn) (s _ _ e1), k _ _ (ne_of_none e2 hn) (s _ _ e2), h1, h2⟩
def spRefu (P : Program) (w : World) (D G : Addr) : Sp := fun vs H Q _ => ∃ (a : Addr) (xs : List V) (qs : List (List Fm × List Str)), vs = [.ref a] ∧ H a = some (.lst xs) ∧ Paired (EdAt P w D G H) xs qs ∧ qs.length ≤ 10 ∧ 1 ≤ xs.length ∧ ∀ H', Same H H' → Q (.bl true) H'
theorem ok_refu {f : Addr} {fd : FuncData} (F : Fun K "_law_free_refused" "_law_free_refused" sRefu f fd) (Z : EdK K D) (ZE : NoEd K D)
    (cal : Fx P w K mg base CX0 8 "_law_called" ["_law_way", "_law_value", "_law_many"] (spCalled P w K D G))
    (ver : Fx P w K mg base CX0 9 "_law_very" ["_law_told", "_law_word_here", "_law_thing"] (spVery3 K D)) (mtu : mg "tuple" = none) :
    FnOk P w K mg base CX0 10 f fd ["_law_editions"] (spRefu P w D G) := by
  refine F.ok scRefu (fun vs H Q E h => ?_) (fun cdv A outer s H vs Q E hr h => ?_)
  · obtain ⟨a, xs, qs, rfl, _⟩ := h
    rfl
  · obtain ⟨a, xs, qs, rfl, ha, hp, hq10, h1, q⟩ := h
    have nd := scRefu.nd
    have r8 := hr.mono (by decide : 8 ≤ 9)
    refine ⟨_, pss_cons (ps_for PassesOwn.never rfl (pi_tup (pe_tup (pa_cons pe_non (pa_cons pe_int (pa_cons pe_str (pa_cons (pe_callTy call_tuple_of (by rfl) mtu boot_tuple (pa_cons (pv 0) pa_nil)) (pa_cons (pe_op op_cat (pv 0) (pe_lst (pa_cons pe_non pa_nil))) (pa_cons (pe_lst (pa_cons (pv 0) pa_nil)) (pa_cons (pe_ix ix_list (pv 0) pe_int (fun _ _ => rfl))
          (pa_cons (pe_lst (pa_cons (pe_tup (pa_cons (pe_lst pa_nil) (pa_cons (pe_lst pa_nil) pa_nil))) pa_nil)) (pa_cons (pe_disp (pps_cons pe_str (pe_ix ix_list (pv 0) pe_int (fun _ _ => rfl)) pps_nil) rfl rfl (by simp) (by decide)) pa_nil))))))))))) (pg_name (i := 1) nd rfl (.inl rfl))
          (pss_one (ps_for PassesOwn.never rfl (pi_tup (pe_tup (pa_cons pe_int (pa_cons (pe_un un_neg pe_int) (pa_cons pe_non pa_nil))))) (pg_name (i := 2) nd rfl (.inl rfl))
            (pss_one (ps_if (pt_not (pt_val (pe_call ver.G hr (by rfl) ver.g ver.kp ver.b .nil pass0 (pa_cons (pe_call cal.G r8 (by rfl) cal.g cal.kp cal.b .nil pass0 (pa_cons pe_str (pa_cons (pv 1) (pa_cons (pv 2) pa_nil)))) (pa_cons pe_str (pa_cons (pv 1) pa_nil)))))) (pss_one (ps_ret pe_bl)) pss_nil)))))
      (pss_cons (ps_for PassesOwn.never rfl (pi_tup (pe_tup (pa_cons (pe_un un_neg pe_int) (pa_cons pe_int (pa_cons pe_non (pa_cons pe_bl (pa_cons pe_bl (pa_cons pe_str (pa_cons (pe_lst (pa_cons pe_int pa_nil)) (pa_cons (pe_op op_powW pe_int pe_int) pa_nil)))))))))) (pg_name (i := 2) nd rfl (.inl rfl))
          (pss_one (ps_if (pt_not (pt_val (pe_call ver.G hr (by rfl) ver.g ver.kp ver.b .nil pass0 (pa_cons (pe_call cal.G r8 (by rfl) cal.g cal.kp cal.b .nil pass0 (pa_cons pe_str (pa_cons (pv 0) (pa_cons (pv 2) pa_nil)))) (pa_cons pe_str (pa_cons (pv 2) pa_nil)))))) (pss_one (ps_ret pe_bl)) pss_nil)))
      (pss_one (ps_ret pe_bl))), ?_⟩
    have hx := pairs_len hp
    have hxl : xs.length ≤ 10 := by omega
    have heds : ∀ x ∈ xs, ∃ e, x = .ref e ∧ EdEq D H e := fun x hxm => by
      obtain ⟨i, hi⟩ := List.mem_iff_getElem?.mp hxm
      obtain ⟨q', _, h⟩ := prs_get hp hi
      exact edat_eq h
    obtain ⟨e0, h0, hd0⟩ : ∃ e0, xs[0]? = some (.ref e0) ∧ EdEq D H e0 := by
      match xs, h1, heds with
      | x :: xs', _, heds =>
        obtain ⟨e, rfl, h⟩ := heds x List.mem_cons_self
        exact ⟨e, rfl, h⟩
    have at0 : atI xs (0 : Int) = some (.ref e0) := atI_nat (j := 0) h0
    have nolOf : ∀ {v : V} {m : String} {H' : Hp}, Atom v m → kitB m "list" = some false → Thing3 K D H' v ∧ EdV K D H' v false := fun {v m H'} hm hk =>
      have no : NoL K H' v := ⟨.type m, kit_ty hk, fun _ _ => hm.ty⟩
      ⟨.inl ⟨no, atom_eqe hm 6⟩, .inr ⟨no, rfl⟩⟩
    -- the nine things
    refine ⟨.ref a, rfl, a, xs, rfl, .inl ⟨SqL.of ha, fun q4 m4 => ?_⟩⟩
    have s4 := same_upd (o := .tup xs) m4
    have e4 : (upd H q4 (.tup xs)) q4 = some (.tup xs) := upd_same
    generalize upd H q4 (.tup xs) = H4 at s4 e4 ⊢
    refine ⟨.ref a, rfl, sz 1 (by decide), fun l5 n5 => ⟨a, l5, xs, [.non], rfl, rfl, (s4.trans (same_upd n5)) _ _ ha, upd_same, Nat.le_trans (by show xs.length + 1 ≤ 11; omega) (sz 11 (by decide)), fun q5 m5 => ?_⟩⟩
    have s5a := s4.trans (same_upd (o := .lst [V.non]) n5)
    have s5 := s5a.trans (same_upd (o := .lst (xs ++ [V.non])) m5)
    have e5 : (upd (upd H4 l5 (.lst [V.non])) q5 (.lst (xs ++ [V.non]))) q5 = some (.lst (xs ++ [V.non])) := upd_same
    have s45 : Same H4 (upd (upd H4 l5 (.lst [V.non])) q5 (.lst (xs ++ [V.non]))) := (same_upd n5).trans (same_upd m5)
    have s55 := same_upd (o := .lst (xs ++ [V.non])) m5
    generalize upd H4 l5 (.lst [V.non]) = H5a at m5 s5a s5 e5 s45 s55 ⊢
    generalize upd H5a q5 (.lst (xs ++ [V.non])) = H5 at s5 e5 s45 s55 ⊢
    refine ⟨.ref a, rfl, sz 1 (by decide), fun q6 m6 => ?_⟩
    have s56 := same_upd (o := .lst [V.ref a]) m6
    have e6 : (upd H5 q6 (.lst [V.ref a])) q6 = some (.lst [V.ref a]) := upd_same
    generalize upd H5 q6 (.lst [V.ref a]) = H6 at s56 e6 ⊢
    have s6 := s5.trans s56
    refine ⟨.ref a, rfl, a, xs, 0, .ref e0, rfl, rfl, SqL.of (s6 _ _ ha), at0, Nat.zero_le _, fun y1 z1 => ⟨Nat.zero_le _, fun y2 z2 => ⟨sz 2 (by decide), fun t8 z8 => ⟨sz 1 (by decide), fun q8 m8 => ?_⟩⟩⟩⟩
    have w1 := same_upd (o := .lst []) z1
    have w2 := same_upd (o := .lst []) z2
    have w3 := same_upd (o := .tup [V.ref y1, V.ref y2]) z8
    have w4 := same_upd (o := .lst [V.ref t8]) m8
    have x1 := w3 _ _ (w2 _ _ (upd_same (H := H6) (a := y1) (o := .lst [])))
    have x2 := w3 _ _ (upd_same (H := upd H6 y1 (.lst [])) (a := y2) (o := .lst []))
    have x3 := upd_same (H := upd (upd H6 y1 (.lst [])) y2 (.lst [])) (a := t8) (o := .tup [V.ref y1, V.ref y2])
    have x4 := upd_same (H := upd (upd (upd H6 y1 (.lst [])) y2 (.lst [])) t8 (.tup [V.ref y1, V.ref y2])) (a := q8) (o := .lst [V.ref t8])
    have s67 := ((w1.trans w2).trans w3)
    generalize upd (upd (upd H6 y1 (.lst [])) y2 (.lst [])) t8 (.tup [V.ref y1, V.ref y2]) = H7 at x1 x2 x3 x4 m8 w4 s67 ⊢
    generalize upd H7 q8 (.lst [V.ref t8]) = H8 at x4 w4 ⊢
    have s8 := (s6.trans s67).trans w4
    refine fun q9 m9 => ⟨.ref a, rfl, a, xs, 0, .ref e0, rfl, rfl, SqL.of ((s8.trans (same_upd m9)) _ _ ha), at0, upd_same, [(Sum.inr "a", V.ref e0)], rfl, (show 1 ≤ 15 by decide), sz 9 (by decide), fun tq ntq => ?_⟩
    have em : mergeK [] [((Sum.inr (Str.ofString "a") : Key), V.ref e0)] = [(Sum.inr (Str.ofString "a"), V.ref e0)] := rfl
    rw [em] at ntq ⊢
    have s89 : Same H8 (upd (upd H8 q9 (.dK [])) q9 (.dK [(Sum.inr (Str.ofString "a"), V.ref e0)])) := fun b o hb => by
      have := ne_of_none hb m9
      rw [upd_ne this, upd_ne this]
      exact hb
    have x9 := upd_same (H := upd H8 q9 (.dK [])) (a := q9) (o := .dK [(Sum.inr (Str.ofString "a"), V.ref e0)])
    generalize upd (upd H8 q9 (.dK [])) q9 (.dK [(Sum.inr (Str.ofString "a"), V.ref e0)]) = H9 at s89 x9 ntq ⊢
    have s9q := same_upd (o := .tup [V.non, .int 5, .str "a", .ref q4, .ref q5, .ref q6, .ref e0, .ref q8, .ref q9]) ntq
    have etq := upd_same (H := H9) (a := tq) (o := .tup [V.non, .int 5, .str "a", .ref q4, .ref q5, .ref q6, .ref e0, .ref q8, .ref q9])
    generalize upd H9 tq (.tup [V.non, .int 5, .str "a", .ref q4, .ref q5, .ref q6, .ref e0, .ref q8, .ref q9]) = Hv at s9q etq ⊢
    have s8v := s89.trans s9q
    have s7v := w4.trans s8v
    have s6v := s67.trans s7v
    have s5v := s56.trans s6v
    have sAll := s5.trans s5v
    have things : ∀ x, x ∈ [V.non, .int 5, .str "a", .ref q4, .ref q5, .ref q6, .ref e0, .ref q8, .ref q9] → ∀ H', Same Hv H' → Thing3 K D H' x ∧ EdV K D H' x false := by
      intro x hxm H' s'
      have hedv : ∀ x ∈ xs, ∃ e, x = .ref e ∧ EdEq D H' e := fun x hxm => by
        obtain ⟨e, r, h⟩ := heds x hxm
        exact ⟨e, r, h.same (sAll.trans s')⟩
      simp only [List.mem_cons, List.not_mem_nil, or_false] at hxm
      rcases hxm with rfl | rfl | rfl | rfl | rfl | rfl | rfl | rfl | rfl
      · exact nolOf .non (by decide +kernel)
      · exact nolOf (.int 5) (by decide +kernel)
      · exact nolOf (.str _) (by decide +kernel)
      · have e4' := s' _ _ (s5v _ _ (s45 _ _ e4))
        have no : NoL K H' (.ref q4) := ⟨.type "tuple", kit_ty (by decide +kernel), fun H2 s2 => .base (.tup (s2 _ _ e4'))⟩
        exact ⟨.inl ⟨no, .inr (.inl ⟨q4, q4, xs, xs, rfl, rfl, .inr ⟨e4', e4'⟩, eds_refl (k := 3) hedv, by omega⟩)⟩, .inr ⟨no, rfl⟩⟩
      · have e5' := s' _ _ (s5v _ _ e5)
        refine ⟨.inr ⟨q5, _, rfl, e5', by rw [List.length_append]; simp; omega, fun x hxm H2 k2 => ?_⟩, .inl ⟨q5, _, (xs.map fun _ => true) ++ [false], rfl, e5', by rw [List.length_append]; simp; omega, ?_, ?_⟩⟩
        · rw [List.mem_append, List.mem_singleton] at hxm
          rcases hxm with h | rfl
          · obtain ⟨e, rfl, he⟩ := heds x h
            have s5a' : Same H5a H' := s55.trans (s5v.trans s')
            exact eqe_ed (k := 3) (EdEq.keepL m5 (he.same s5a) s5a' k2)
          · exact atom_eqe .non 5
        · exact paired_app (eds_all Z ZE hedv) (.cons ⟨_, ZE.n, fun H2 _ => .base .non⟩ .nil)
        · rw [List.all_append]
          simp
      · have e6' := s' _ _ (s6v _ _ e6)
        have ha' := (sAll.trans s') _ _ ha
        have na : a ≠ q6 := ne_of_none (s5 _ _ ha) m6
        refine ⟨.inr ⟨q6, _, rfl, e6', (show 1 ≤ 1000 by decide), fun x hxm H2 k2 => ?_⟩, .inl ⟨q6, _, [false], rfl, e6', (show 1 ≤ 1000 by decide), .cons ⟨_, ZE.l, fun H2 s2 => .base (.lst (s2 _ _ ha'))⟩ .nil, rfl⟩⟩
        rw [List.mem_singleton.mp hxm]
        refine .inr (.inl ⟨a, a, xs, xs, rfl, rfl, .inl ⟨k2 _ _ na ha', k2 _ _ na ha'⟩, eds_refl (k := 2) fun x hxm => ?_, by omega⟩)
        obtain ⟨e, r, h⟩ := heds x hxm
        exact ⟨e, r, EdEq.keepL m6 (h.same s5) (s5v.trans s') k2⟩
      · obtain ⟨dx, l1, l2, g, ys, zs, e1, _⟩ := hd0.same (sAll.trans s')
        have no : NoL K H' (.ref e0) := ⟨.ref D, Z.nl, fun H2 s2 => Z.ty (s2 _ _ e1)⟩
        exact ⟨.inl ⟨no, eqe_ed (k := 4) (hd0.same (sAll.trans s'))⟩, .inr ⟨no, rfl⟩⟩
      · have s78 := s8v.trans s'
        have x4' := s78 _ _ x4
        have n3 : t8 ≠ q8 := ne_of_none x3 m8
        have n1 : y1 ≠ q8 := ne_of_none x1 m8
        have n2 : y2 ≠ q8 := ne_of_none x2 m8
        have x3' := s' _ _ (s7v _ _ x3)
        have x1' := s' _ _ (s7v _ _ x1)
        have x2' := s' _ _ (s7v _ _ x2)
        refine ⟨.inr ⟨q8, _, rfl, x4', (show 1 ≤ 1000 by decide), fun x hxm H2 k2 => ?_⟩, .inl ⟨q8, _, [false], rfl, x4', (show 1 ≤ 1000 by decide), .cons ⟨_, ZE.t, fun H2 s2 => .base (.tup (s2 _ _ x3'))⟩ .nil, rfl⟩⟩
        rw [List.mem_singleton.mp hxm]
        have k1' := k2 _ _ n1 x1'
        have k2' := k2 _ _ n2 x2'
        have k3' := k2 _ _ n3 x3'
        exact .inr (.inl ⟨t8, t8, _, _, rfl, rfl, .inr ⟨k3', k3'⟩, .cons (.inr (.inl ⟨y1, y1, [], [], rfl, rfl, .inl ⟨k1', k1'⟩, .nil, Nat.zero_le _⟩)) (.cons (.inr (.inl ⟨y2, y2, [], [], rfl, rfl, .inl ⟨k2', k2'⟩, .nil, Nat.zero_le _⟩)) .nil), (show 2 ≤ 1100 by decide)⟩)
      · have x9' := s' _ _ (s9q _ _ x9)
        have no : NoL K H' (.ref q9) := ⟨.type "dict", kit_ty (by decide +kernel), fun H2 s2 => .base (.dK (s2 _ _ x9'))⟩
        refine ⟨.inl ⟨no, .inr (.inr (.inl ⟨q9, _, (show 1 ≤ 5 by decide), rfl, rfl, x9', (show 1 ≤ 1000 by decide), fun kv hk => ?_⟩))⟩, .inr ⟨no, rfl⟩⟩
        rw [List.mem_singleton.mp hk]
        refine ⟨.inr ⟨by decide, e0, rfl, hd0.same (sAll.trans s')⟩, ?_⟩
        unfold valV
        rw [List.find?_cons_of_pos (by simp)]
        rfl
    refine ⟨tq, rfl, ⟨_, SqT.of etq⟩, for_tup (K := K) (a := tq) (xs := [V.non, .int 5, .str "a", .ref q4, .ref q5, .ref q6, .ref e0, .ref q8, .ref q9])
      (fun i σ H' => (∃ u v : Option V, σ = [some (.ref a), u, v]) ∧ Same Hv H') ⟨⟨none, none, rfl⟩, Same.refl _⟩ (fun i σ H' _ h => SqT.of (h.2 _ _ etq)) ?_ ?_⟩
    · rintro i x σ HG hx ⟨⟨u, v, rfl⟩, sG⟩
      have hmem := List.mem_of_getElem? hx
      refine ⟨_, rfl, sz 3 (by decide), fun tw ntw => ?_⟩
      have sw := same_upd (o := .tup [V.int 3, .int (-1), .non]) ntw
      refine ⟨tw, rfl, ⟨_, SqT.of upd_same⟩, for_tup (K := K) (a := tw) (xs := [V.int 3, .int (-1), .non])
        (fun i σ H' => (∃ v : Option V, σ = [some (.ref a), some x, v]) ∧ Same (upd HG tw (.tup [V.int 3, .int (-1), .non])) H') ⟨⟨_, rfl⟩, Same.refl _⟩ (fun i σ H' _ h => SqT.of (h.2 _ _ upd_same)) ?_ ?_⟩
      · rintro j y σ HI hy ⟨⟨v', rfl⟩, sI⟩
        obtain ⟨th, tx⟩ := things x hmem HI ((sG.trans sw).trans sI)
        refine ⟨x, rfl, y, rfl, x, y, .inr (.inr ⟨rfl, .inl ⟨tx, fun HJ t sJ eJ => ?_⟩⟩)⟩
        exact ⟨x, rfl, t, "editions", x, rfl, eJ, th.same sJ, fun HK sK => ⟨true, rfl, iteF ⟨⟨_, rfl⟩, (sI.trans sJ).trans sK⟩⟩⟩
      · rintro σ HI ⟨⟨v', rfl⟩, sI⟩
        exact ⟨⟨_, _, rfl⟩, (sG.trans sw).trans sI⟩
    rintro σ HG ⟨⟨u, v, rfl⟩, sG⟩
    have s0G := sAll.trans sG
    -- the numbers
    refine ⟨_, rfl, sz 1 (by decide), fun l3 n3 => ⟨_, _, rfl, rfl, ⟨by decide, by decide +kernel⟩, sz 8 (by decide), fun tw ntw => ?_⟩⟩
    have w3 := same_upd (o := .lst [V.int 3]) n3
    have z3 := upd_same (H := HG) (a := l3) (o := .lst [V.int 3])
    have ww := same_upd (o := .tup [V.int (-1), .int 1001, .non, .bl true, .bl false, .str "3", .ref l3, .int (10 ^ Int.toNat 29)]) ntw
    have ew := upd_same (H := upd HG l3 (.lst [V.int 3])) (a := tw) (o := .tup [V.int (-1), .int 1001, .non, .bl true, .bl false, .str "3", .ref l3, .int (10 ^ Int.toNat 29)])
    have z3' := ww _ _ z3
    have s0W := (s0G.trans w3).trans ww
    generalize upd (upd HG l3 (.lst [V.int 3])) tw (.tup [V.int (-1), .int 1001, .non, .bl true, .bl false, .str "3", .ref l3, .int (10 ^ Int.toNat 29)]) = HW at ew z3' s0W ⊢
    have nums : ∀ x, x ∈ [V.int (-1), .int 1001, .non, .bl true, .bl false, .str "3", .ref l3, .int (10 ^ Int.toNat 29)] → ∀ H', Same HW H' → Thing3 K D H' x ∧ ((∃ i : Int, x = .int i ∧ 1000 < i) ∨ CntV K H' x false) := by
      intro x hxm H' s'
      simp only [List.mem_cons, List.not_mem_nil, or_false] at hxm
      rcases hxm with rfl | rfl | rfl | rfl | rfl | rfl | rfl | rfl
      · exact ⟨(nolOf (.int _) (by decide +kernel)).1, .inr (.inl ⟨-1, rfl, by decide⟩)⟩
      · exact ⟨(nolOf (.int _) (by decide +kernel)).1, .inl ⟨_, rfl, by decide⟩⟩
      · exact ⟨(nolOf .non (by decide +kernel)).1, .inr (.inr (.inr ⟨⟨.type "NoneType", kit_ty (by decide +kernel), fun H2 _ => .base .non⟩, rfl⟩))⟩
      · exact ⟨(nolOf (.bl _) (by decide +kernel)).1, .inr (.inr (.inl ⟨true, rfl, rfl⟩))⟩
      · exact ⟨(nolOf (.bl _) (by decide +kernel)).1, .inr (.inr (.inl ⟨false, rfl, rfl⟩))⟩
      · exact ⟨(nolOf (.str _) (by decide +kernel)).1, .inr (.inr (.inr ⟨⟨.type "str", kit_ty (by decide +kernel), fun H2 _ => .base (.str _)⟩, rfl⟩))⟩
      · have z := s' _ _ z3'
        refine ⟨.inr ⟨l3, _, rfl, z, (show 1 ≤ 1000 by decide), fun y hy H2 _ => by rw [List.mem_singleton.mp hy]; exact atom_eqe (.int 3) 5⟩, .inr (.inr (.inr ⟨⟨.type "list", kit_ty (by decide +kernel), fun H2 s2 => .base (.lst (s2 _ _ z))⟩, rfl⟩))⟩
      · exact ⟨(nolOf (.int _) (by decide +kernel)).1, .inl ⟨_, rfl, by decide +kernel⟩⟩
    refine ⟨tw, rfl, ⟨_, SqT.of ew⟩, for_tup (K := K) (a := tw) (xs := [V.int (-1), .int 1001, .non, .bl true, .bl false, .str "3", .ref l3, .int (10 ^ Int.toNat 29)])
      (fun i σ H' => (∃ u v : Option V, σ = [some (.ref a), u, v]) ∧ Same HW H') ⟨⟨_, _, rfl⟩, Same.refl _⟩ (fun i σ H' _ h => SqT.of (h.2 _ _ ew)) ?_ ?_⟩
    · rintro i x σ HI hx ⟨⟨u, v, rfl⟩, sI⟩
      obtain ⟨th, tx⟩ := nums x (List.mem_of_getElem? hx) HI sI
      have s0I := s0W.trans sI
      have hedI : ∀ y ∈ xs, ∃ e, y = .ref e ∧ EdEq D HI e := fun y hy => by
        obtain ⟨e, r, h⟩ := heds y hy
        exact ⟨e, r, h.same s0I⟩
      refine ⟨.ref a, rfl, x, rfl, .ref a, x, .inr (.inr ⟨rfl, .inr ⟨a, xs, qs, rfl, s0I _ _ ha, prs_keep (fun h => EdAt.same s0I h) hp, hq10, eds_v Z ZE (s0I _ _ ha) (by omega) hedI, tx, fun HJ t sJ eJ => ?_⟩⟩)⟩
      exact ⟨x, rfl, t, "count", x, rfl, eJ, th.same sJ, fun HK sK => ⟨true, rfl, iteF ⟨⟨_, _, rfl⟩, (sI.trans sJ).trans sK⟩⟩⟩
    · rintro σ HI ⟨⟨u, v, rfl⟩, sI⟩
      exact q _ (s0W.trans sI)
end
end K2

set_option Elab.async false
set_option linter.all false
set_option maxRecDepth 100000
set_option maxHeartbeats 8000000
/-! k03: free words are right -/
namespace K2
open PySem PySem.Spec PyProof.Rows L2 EL LW ND
open Ln (L isTok isWord)
abbrev sFreeR : Stmt := topS 94
abbrev nFr : List Str := ["_law_purse_here", "_law_some", "_law_editions", "_law_fixed", "_law_many", "_law_due", "_law_told", "_law_forms", "_law_hard", "_law_form", "_law_turn"]
theorem scFreeR : FnScope nFr ["_law_purse_here"] (defScope sFreeR) := ⟨rfl, rfl, rfl, by decide +kernel, rfl, by decide +kernel, by decide +kernel⟩
/-! ### what stays where a list is changed -/
section
variable {H H' : Hp} {b : Addr} {ys : List V}
theorem rd_keepL (e : H b = some (.lst ys)) (k : Keep b H H') : TupS H H' := fun x vs h => by
  rcases h with h | ⟨o, h⟩
  · exact .inl (k _ _ (fun z => by rw [z, e] at h; cases h) h)
  · exact .inr ⟨o, k _ _ (fun z => by rw [z, e] at h; cases h) h⟩
theorem et_keepL (e : H b = some (.lst ys)) (k : Keep b H H') {a : Addr} {xs : List V} : ET H a xs → ET H' a xs := fun ⟨o, h, r⟩ => ⟨o, k _ _ (fun z => by rw [z, e] at h; cases h) h, r⟩
theorem formAt_keepL (e : H b = some (.lst ys)) (k : Keep b H H') {v : V} {f : Fm} : FormAt H v f → FormAt H' v f := fun ⟨a, ap, al, r, h1, h2, h3⟩ => ⟨a, ap, al, r, et_keepL e k h1, et_keepL e k h2, et_keepL e k h3⟩
theorem shortE_keepL (e : H b = some (.lst ys)) (k : Keep b H H') {fl hl : Addr} {fs : List Fm} {hard : List Str} (n1 : fl ≠ b) (n2 : hl ≠ b) (h : ShortE H fl hl fs hard) : ShortE H' fl hl fs hard := by
  obtain ⟨xs, e1, hp⟩ := h.fl
  exact ⟨⟨xs, k _ _ n1 e1, prs_keep (formAt_keepL e k) hp⟩, k _ _ n2 h.hl, h.nd, h.words, h.sound, h.few, h.toks⟩
theorem gramAt_keepL {P : Program} {w : World} {G g : Addr} {fs : List Fm} (e : H b = some (.lst ys)) (k : Keep b H H') : GramAt P w G H g fs → GramAt P w G H' g fs := fun ⟨dx, d1, d2, d3, d4, d5, d6, h1, h2, h3⟩ => by
  obtain ⟨φ, e1⟩ := DN.at_ext h2
  exact ⟨dx, d1, d2, d3, d4, d5, d6, k _ _ (fun z => by rw [z, e] at h1; cases h1) h1, DN.keep (rd_keepL e k) (fun o ho => k _ _ (fun z => by rw [z, e] at e1; cases e1) ho) h2, k _ _ (fun z => by rw [z, e] at h3; cases h3) h3⟩
theorem editF_keepL {P : Program} {w : World} {D G a : Addr} {H0 : Hp} {fs : List Fm} {hard : List Str} (e : H b = some (.lst ys)) (k : Keep b H H') (h0 : H0 b ≠ none) : EditAtF P w D G H0 H a fs hard → EditAtF P w D G H0 H' a fs hard := fun ⟨dx, l1, l2, g, us, n1, n2, e0, e1, hp, e2, hg⟩ =>
  ⟨dx, l1, l2, g, us, n1, n2, k _ _ (fun z => by rw [z, e] at e0; cases e0) e0, k _ _ (fun z => h0 (z ▸ n1)) e1, prs_keep (fun h => h.keep (rd_keepL e k)) hp, k _ _ (fun z => h0 (z ▸ n2)) e2, gramAt_keepL e k hg⟩
end
theorem EditAtF.same {P : Program} {w : World} {D G : Addr} {H0 H H' : Hp} {a : Addr} {fs : List Fm} {hard : List Str} (s : Same H H') : EditAtF P w D G H0 H a fs hard → EditAtF P w D G H0 H' a fs hard := fun ⟨dx, l1, l2, g, us, n1, n2, e0, e1, hp, e2, hg⟩ =>
  ⟨dx, l1, l2, g, us, n1, n2, s _ _ e0, s _ _ e1, prs_keep (fun h => h.keep (TupS.of s)) hp, s _ _ e2, GramAt.same s hg⟩
theorem EditAtF.base {P : Program} {w : World} {D G : Addr} {H0 H1 H : Hp} {a : Addr} {fs : List Fm} {hard : List Str} (n : ∀ b, H1 b = none → H0 b = none) : EditAtF P w D G H1 H a fs hard → EditAtF P w D G H0 H a fs hard := fun ⟨dx, l1, l2, g, us, n1, n2, h⟩ => ⟨dx, l1, l2, g, us, n _ n1, n _ n2, h⟩
theorem Same.back {H H' : Hp} (s : Same H H') {b : Addr} (h : H' b = none) : H b = none := by
  cases z : H b with
  | none => rfl
  | some o => rw [s _ _ z] at h; cases h
theorem paired_mem {α β : Type} {R R' : α → β → Prop} : ∀ {xs : List α} {ys : List β}, Paired R xs ys → (∀ x y, y ∈ ys → R x y → R' x y) → Paired R' xs ys
  | [], [], _, _ => .nil
  | x :: xs, y :: ys, .cons h t, f => .cons (f x y List.mem_cons_self h) (paired_mem t fun x y m => f x y (List.mem_cons_of_mem _ m))
/-- what a short edition is told as -/
def ShAt (H : Hp) (v : V) (q : List Fm × List Str) : Prop := ∃ p fl hl, v = .ref p ∧ H p = some (.lst [.ref fl, .ref hl]) ∧ ShortE H fl hl q.1 q.2
def ShAtN (D : Addr) (H : Hp) (v : V) (q : List Fm × List Str) : Prop := ∃ p fl hl, v = .ref p ∧ p ≠ D ∧ fl ≠ D ∧ hl ≠ D ∧ H p = some (.lst [.ref fl, .ref hl]) ∧ ShortE H fl hl q.1 q.2
theorem shAtN_keepL {D b : Addr} {H H' : Hp} {ys : List V} {v : V} {q : List Fm × List Str} (e : H b = some (.lst ys)) (k : Keep b H H') (n : D = b ∨ PurseAt H b) : ShAtN D H v q → ShAtN D H' v q := fun ⟨p, fl, hl, r, n1, n2, n3, h1, h2⟩ => by
  have np : p ≠ b := n.elim (fun z => z ▸ n1) fun hp => no_purse hp h1 fun y hy i z => by
    simp only [List.mem_cons, List.not_mem_nil, or_false] at hy
    rcases hy with rfl | rfl <;> cases z
  obtain ⟨xs, e1, hp1⟩ := h2.fl
  have nf : fl ≠ b := n.elim (fun z => z ▸ n2) fun hp => no_purse hp e1 fun y hy i z => by
    obtain ⟨j, hj⟩ := List.mem_iff_getElem?.mp hy
    obtain ⟨f, _, c, _, _, ec, _⟩ := prs_get hp1 hj
    rw [ec] at z
    cases z
  have nh : hl ≠ b := n.elim (fun z => z ▸ n3) fun hp => no_purse hp h2.hl fun y hy i z => by
    obtain ⟨x, _, rfl⟩ := List.mem_map.mp hy
    cases z
  exact ⟨p, fl, hl, r, n1, n2, n3, k _ _ np h1, shortE_keepL e k nf nh h2⟩
theorem ShortE.same {H H' : Hp} {fl hl : Addr} {fs : List Fm} {hard : List Str} (s : Same H H') (h : ShortE H fl hl fs hard) : ShortE H' fl hl fs hard := by
  obtain ⟨xs, e1, hp⟩ := h.fl
  exact ⟨⟨xs, s _ _ e1, prs_keep (fun h => h.same s) hp⟩, s _ _ h.hl, h.nd, h.words, h.sound, h.few, h.toks⟩
theorem ShAt.same {H H' : Hp} {v : V} {q : List Fm × List Str} (s : Same H H') : ShAt H v q → ShAt H' v q := fun ⟨p, fl, hl, r, h1, h2⟩ => ⟨p, fl, hl, r, s _ _ h1, h2.same s⟩
/-! ### free words by what stands in patterns -/
theorem freeTo_congr {p r : L → Bool} (h : ∀ i, p (wAt (i + 1)) = r (wAt (i + 1))) (n : Nat) : freeTo p n = freeTo r n := by
  unfold freeTo
  rw [List.filter_map, List.filter_map]
  congr 1
  exact List.filter_congr fun i _ => by show (!p (wAt (i + 1))) = !r (wAt (i + 1)); rw [h]
def most14 : List Str := hole :: some13
theorem free_many {fx : List Str} (h : ∀ x ∈ fx, x ∈ most14) (n : Nat) : n ≤ (freeTo (fun t => decide (S t ∈ fx)) (n + 60)).length := by
  have e : freeTo (fun t => decide (S t ∈ fx)) (n + 60) = freeTo (fun t => decide (S t ∈ most14.filter fun x => decide (x ∈ fx))) (n + 60) := by
    refine freeTo_congr (fun i => ?_) _
    rw [Bool.eq_iff_iff, decide_eq_true_iff, decide_eq_true_iff, List.mem_filter, decide_eq_true_iff]
    exact ⟨fun hx => ⟨h _ hx, hx⟩, fun hx => hx.2⟩
  have h1 := freeTo_len (most14.filter fun x => decide (x ∈ fx)) (n + 60)
  have h2 : (most14.filter fun x => decide (x ∈ fx)).length ≤ 14 := List.length_filter_le _ _
  rw [e]
  omega
theorem wAt_nohole (i : Nat) : S (wAt i) ≠ hole := fun e => by
  have h1 : cp hole = [95] := by decide +kernel
  have h2 := congrArg cp e
  rw [cp_S, h1] at h2
  have := wAt_let i i (Nat.le_refl _) 95 (by rw [h2]; simp)
  revert this
  decide
theorem sound_x : Sound [⟨["x", "_"], 3, [3]⟩] [] := by
  have hf : FmOk ⟨["x", "_"], 3, [3]⟩ := ⟨⟨by decide, by decide, by decide +kernel, by decide +kernel, by decide +kernel, fun i h => by
    match i, h with
    | 0, h => exact absurd h (by decide +kernel)
    | 1, h => show ([] : List Str)[0]? ≠ _; simp
    | i + 2, h => simp at h⟩, by decide, by decide +kernel, by decide⟩
  refine ⟨by decide, fun f h => by rw [List.mem_singleton.mp h]; exact hf, by decide +kernel, ?_, ?_, ?_, fun t h => (nomatch h), fun p hp h1 => ?_⟩
  · intro k i j h1 h2
    have hall : allLv [⟨["x", "_"], 3, [3]⟩] = [(.tup [.text tHead, .text "x"], 3), (.tup [.text tHole, .tup [.text "x", .text "_"]], 3)] := by rfl
    rw [hall] at h1 h2
    simp only [List.mem_cons, List.not_mem_nil, or_false, Prod.mk.injEq] at h1 h2
    rcases h1 with ⟨_, rfl⟩ | ⟨_, rfl⟩ <;> rcases h2 with ⟨_, rfl⟩ | ⟨_, rfl⟩ <;> rfl
  · intro q hq hh x hx
    have hfol : folOf (patsOf [⟨["x", "_"], 3, [3]⟩]) = ([([("x" : Str), "_"], [noS]), (["x"], [hole])] : Fol) ∨ folOf (patsOf [⟨["x", "_"], 3, [3]⟩]) = ([([("x" : Str)], [hole]), (["x", "_"], [noS])] : Fol) := by decide +kernel
    rcases hfol with e | e <;> rw [e] at hq <;> simp only [List.mem_cons, List.not_mem_nil, or_false] at hq <;> rcases hq with rfl | rfl
    · exact absurd hh (by decide +kernel)
    · exact List.mem_singleton.mp hx
    · exact List.mem_singleton.mp hx
    · exact absurd hh (by decide +kernel)
  · intro t h
    have e : tailsM (patsOf [⟨["x", "_"], 3, [3]⟩]) = [] := by decide +kernel
    rw [e] at h
    cases h
  · rw [List.mem_singleton.mp hp] at h1
    exact absurd h1 (by decide)
section
variable {P : Program} {w : World} {K : PySem.W.Frag} {mg : Str → Option Value} {base : Heap} {D G CE CC : Addr}
def spFreeR : Sp := fun vs H Q _ => ∃ (a : Addr) (n : Nat), vs = [.ref a] ∧ Purse H a n ∧ n < 2 ^ 20 ∧ ∀ H', Keep a H H' → Purse H' a (n + 2000) → Q (.bl true) H'
theorem ok_freeR {f fE : Addr} {fd dE : FuncData} (F : Fun K "_law_free_right" "_law_free_right" sFreeR f fd) (Z : EdK K D) (ZE : NoEd K D)
    (draw : Fx P w K mg base CX0 2 "_law_draw" ["_law_purse_here", "_law_many"] spDraw) (one : Fx P w K mg base CX0 3 "_law_one_of" ["_law_purse_here", "_law_some"] (spOneOf K))
    (short : Fx P w K mg base CX0 4 "_law_short_edition" ["_law_purse_here"] spShort) (cnt : Fx P w K mg base CX0 1 "_law_count_up" ["_law_fixed", "_law_many"] (spCountUp K))
    (free : Fx P w K mg base (L2.CX P w) 3 "free_words" ["editions", "many"] (spFree P w K D G CE CC)) (freeK : KBinds K free.fd ["editions", "many"] ["editions", "many"] only2 only2)
    (exa : Fx P w K mg base CX0 8 "_law_exact" ["_law_one", "_law_other"] (spXE D 8)) (refu : Fx P w K mg base CX0 10 "_law_free_refused" ["_law_editions"] (spRefu P w D G))
    (ZM : Mk K D fE) (GE : FnOk P w K mg base CX0 9 fE dE ["self", "forms", "hard"] (spEdit P w D G)) (bE : Binds K dE ["self", "forms", "hard"] []) (gE : mg "Edition" = some (.ref D))
    (mli : mg "list" = none) (ml : mg "len" = none) (mr : mg "range" = none) : FnOk P w K mg base CX0 11 f fd ["_law_purse_here"] spFreeR := by
  refine F.ok scFreeR (fun vs H Q E h => ?_) (fun cdv A outer s H vs Q E hr h => ?_)
  · obtain ⟨a, n, rfl, _⟩ := h
    rfl
  · obtain ⟨a, n, rfl, hP, hn, q⟩ := h
    have nd := scFreeR.nd
    have rE := hr
    have r8 := hr.mono (by decide : 8 ≤ 10)
    have r4 := hr.mono (by decide : 4 ≤ 10)
    have r3 := hr.mono (by decide : 3 ≤ 10)
    have r2 := hr.mono (by decide : 2 ≤ 10)
    have r1 := hr.mono (by decide : 1 ≤ 10)
    refine ⟨_, pss_cons (ps_setLc (i := 1) (own := [("_law_turn", 10)]) (g := gName 10) (tt := tYes) rfl nd rfl rfl (sw_true rfl rfl rfl (by decide +kernel)) (pi_range1 rfl mr (pa_cons (pe_call draw.G r2 (by rfl) draw.g draw.kp draw.b .nil pass0 (pa_cons (pv 0) (pa_cons pe_int pa_nil))) pa_nil))
          (blkOk_by (own := [("_law_turn", 10)]) (N := nFr) (sc := defScope sFreeR) (by decide +kernel)) (fun _ _ _ _ _ => pg_name (i := 10) nd rfl (Or.inl rfl)) (fun _ _ _ _ _ => pts_nil) (fun _ _ _ _ _ => pe_call short.G r4 (by rfl) short.g short.kp short.b .nil pass0 (pa_cons (pv 0) pa_nil)))
      (pss_cons (ps_setLc (i := 2) (own := [("_law_forms", 7), ("_law_hard", 8)]) (g := gLst K 2 (gCons (gName 7) (gCons (gName 8) gNil))) (tt := tYes) rfl nd rfl rfl (sw_true rfl rfl rfl (by decide +kernel)) (pi_list (pv 1))
          (blkOk_by (own := [("_law_forms", 7), ("_law_hard", 8)]) (N := nFr) (sc := defScope sFreeR) (by decide +kernel)) (fun _ _ _ _ _ => pg_lst (by rfl) (pgs_cons (pg_name (i := 7) nd rfl (Or.inl rfl)) (pgs_cons (pg_name (i := 8) nd rfl (Or.inl rfl)) pgs_nil))) (fun _ _ _ _ _ => pts_nil)
          (fun _ _ _ _ _ => pe_make ZM GE rE (by rfl) gE bE .nil pass0 (pa_cons (pv 7) (pa_cons (pv 8) pa_nil))))
      (pss_cons (ps_set (i := 3) nd rfl (.inl rfl) (pe_lst pa_nil))
      (pss_cons (ps_for PassesOwn.never rfl (pi_list (pv 1)) (pg_lst (by rfl) (pgs_cons (pg_name (i := 7) nd rfl (.inl rfl)) (pgs_cons (pg_name (i := 8) nd rfl (.inl rfl)) pgs_nil)))
          (pss_one (ps_for PassesOwn.never rfl (pi_list (pv 7)) (pg_name (i := 9) nd rfl (.inl rfl))
            (pss_one (ps_set (i := 3) nd rfl (.inl rfl) (pe_op op_cat (pv 3) (pe_callTy call_list_of (by rfl) mli boot_list (pa_cons (pe_ix (r := rIxT K) ix_tup (pv 9) pe_int (fun _ _ => rfl)) pa_nil))))))))
      (pss_cons (ps_set (i := 4) nd rfl (.inl rfl) (pe_call one.G r3 (by rfl) one.g one.kp one.b .nil pass0 (pa_cons (pv 0) (pa_cons (pe_lst (pa_cons pe_int (pa_cons pe_int (pa_cons pe_int (pa_cons pe_int (pa_cons pe_int (pa_cons pe_int (pa_cons pe_int (pa_cons pe_int (pa_cons pe_int (pa_cons pe_int (pa_cons (pe_call draw.G r2 (by rfl) draw.g draw.kp draw.b .nil pass0 (pa_cons (pv 0) (pa_cons pe_int pa_nil))) pa_nil)))))))))))) pa_nil))))
      (pss_cons (ps_set (i := 5) nd rfl (.inl rfl) (pe_call cnt.G r1 (by rfl) cnt.g cnt.kp cnt.b .nil pass0 (pa_cons (pv 3) (pa_cons (pv 4) pa_nil))))
      (pss_cons (ps_set (i := 6) nd rfl (.inl rfl) (pe_call free.G r3 (by rfl) free.g free.kp free.b .nil passN (pa_cons (pv 2) (pa_cons (pv 4) pa_nil))))
      (pss_cons (ps_if (PW.pt (pw_or (pt_not (pt_val (pe_call exa.G r8 (by rfl) exa.g exa.kp exa.b .nil pass0 (pa_cons (pv 6) (pa_cons (pv 5) pa_nil))))) (pw_or1 (pt_cmpR op_ne (pe_callB call_len_seq (by rfl) ml PySem.boot_len (pa_cons (pv 2) pa_nil)) (pe_callB call_len_seq (by rfl) ml PySem.boot_len (pa_cons (pv 1) pa_nil)) (nomark _))))) (pss_one (ps_ret pe_bl)) pss_nil)
      (pss_cons (ps_expr (pe_bm PySem.F.plainAttrs_list PySem.F.slot_list_append PySem.F.type_list_append mt_append (pv 6) (pa_cons pe_str pa_nil)))
      (pss_cons (ps_expr (pe_bm PySem.F.plainAttrs_list PySem.F.slot_list_append PySem.F.type_list_append mt_append (pv 2) (pa_cons (pe_make ZM GE rE (by rfl) gE bE .nil pass0 (pa_cons (pe_lst (pa_cons (pe_tupF (pa_cons (pe_tupF (pa_cons pe_str (pa_cons pe_str pa_nil))) (pa_cons pe_int (pa_cons (pe_tupF (pa_cons pe_int pa_nil)) pa_nil)))) pa_nil)) (pa_cons (pe_lst pa_nil) pa_nil))) pa_nil)))
      (pss_cons (ps_if (pt_not (pt_val (pe_call exa.G r8 (by rfl) exa.g exa.kp exa.b .nil pass0 (pa_cons (pe_callK0 free.G r3 (by rfl) free.g free.kp freeK passN (pk_cons (pe_slice sl_list (pv 2) po_none (po_some (pe_un un_neg pe_int))) (pk_cons (pv 4) pk_nil))) (pa_cons (pv 5) pa_nil))))) (pss_one (ps_ret pe_bl)) pss_nil)
      (pss_one (ps_ret (pe_and (pe_cmpR op_notIn_seq pe_str (pe_call free.G r3 (by rfl) free.g free.kp free.b .nil passN (pa_cons (pv 2) (pa_cons pe_int pa_nil))) (by rfl)) (pe_one (pe_call refu.G hr (by rfl) refu.g refu.kp refu.b .nil pass0 (pa_cons (pv 2) pa_nil)))))))))))))))), ?_⟩
    -- some short editions
    refine ⟨.ref a, rfl, a, 4, n, rfl, hP, by omega, by decide, by decide, fun r H1 h0 h1 k1 P1 => ⟨_, rfl, by show -(2 ^ 62) ≤ r; omega, by show r < 2 ^ 62; omega, fun D1 nD1 => ?_⟩⟩
    have aD1 := aD_of P1 nD1
    refine lc_range (lo := 0) (n := r.toNat) (fun i H' => Keep a H1 H' ∧ Purse H' a (n + 1 + 40 * i) ∧ ∃ (vs : List V) (qs : List (List Fm × List Str)), H' D1 = some (.lst vs) ∧ vs.length = i ∧ Paired (ShAtN D1 H') vs qs)
      ⟨(same_upd nD1).keep, P1.same (same_upd nD1), [], [], upd_same, rfl, .nil⟩ ?_ ?_
    · rintro i H3 hi ⟨k3, P3, vs, qs, eD, lv, hp⟩
      refine ⟨rfl, lc_turn ?_⟩
      refine ⟨.ref a, rfl, a, _, rfl, P3, by omega, fun p fl hl fs hard H4 np nfl nhl k4 P4 eP sE => ⟨vs, k4 _ _ aD1.symm eD, ?_, fun b o hb hbo => ?_, ?_, vs ++ [.ref p], qs ++ [(fs, hard)], upd_same, by rw [List.length_append, lv]; rfl, ?_⟩⟩
      · exact Nat.lt_of_lt_of_le (by omega : _ < 100) (sz 100 (by decide))
      · rw [upd_ne (ne_of_none hbo nD1)]
        exact k4 _ _ hb (k3 _ _ hb hbo)
      · exact (P4.more (by omega)).keep keep_upd aD1
      · have e4 := k4 _ _ aD1.symm eD
        obtain ⟨pp, qq, tt, ii, ePu, _⟩ := P3
        have hp4 := prs_keep (fun h => shAtN_keepL ePu k4 (.inr ⟨_, _, ePu⟩) h) hp
        have n1 : p ≠ D1 := (ne_of_none eD np).symm
        have n2 : fl ≠ D1 := (ne_of_none eD nfl).symm
        have n3 : hl ≠ D1 := (ne_of_none eD nhl).symm
        refine paired_app (prs_keep (fun h => shAtN_keepL e4 keep_upd (.inl rfl) h) hp4) (.cons ?_ .nil)
        exact shAtN_keepL e4 keep_upd (.inl rfl) ⟨p, fl, hl, rfl, n1, n2, n3, eP, sE⟩
    rintro H2 ⟨k2, P2, vs, qs, eD, lv, hpN⟩
    have hp : Paired (ShAt H2) vs qs := prs_keep (fun ⟨p, fl, hl, r, _, _, _, h⟩ => ⟨p, fl, hl, r, h⟩) hpN
    clear hpN
    have lq := pairs_len hp
    have l3 : vs.length ≤ 3 := by omega
    -- the editions
    refine ⟨_, rfl, D1, rfl, ⟨_, SqL.of eD⟩, fun E2 nE => ?_⟩
    refine lc_list (xs := vs) (fun i H' => Same H2 H' ∧ ∃ es, H' E2 = some (.lst es) ∧ es.length ≤ i ∧ Paired (fun v (q : List Fm × List Str) => ∃ e, v = .ref e ∧ EditAtF P w D G (upd H2 E2 (.lst [])) H' e q.1 q.2) es (qs.take i)) ⟨same_upd nE, [], upd_same, Nat.le_refl _, .nil⟩ (fun i H' _ h => SqL.of (h.1 _ _ eD)) ?_ ?_
    · rintro i x H3 hx ⟨s3, es, eE, le, he⟩
      obtain ⟨q0, hq0, p, fl, hl, rfl, hpp, hsh⟩ := prs_get hp hx
      have hi : i < vs.length := (List.getElem?_eq_some_iff.mp hx).1
      have hsh3 := hsh.same s3
      obtain ⟨xs, efl, hfm⟩ := hsh3.fl
      refine ⟨p, _, rfl, SqL.of (s3 _ _ hpp), rfl, _, _, rfl, _, _, rfl, rfl, rfl, lc_turn ?_⟩
      refine ⟨_, rfl, _, rfl, fun e dx ne ndx hne => ?_⟩
      have up : ∀ {b : Addr} {o : HO}, H3 b = some o → (upd (upd H3 dx (.own e)) e (.ins D dx [])) b = some o := fun {b o} hb => by
        rw [upd_ne (ne_of_none hb ne), upd_ne (ne_of_none hb ndx)]
        exact hb
      refine ⟨e, dx, fl, hl, xs, q0.1, q0.2, rfl, upd_same, up efl, prs_keep (fun h => FormAt.same (fun b o hb => up hb) h) hfm, up hsh3.hl, by have := hsh3.few.2; omega, hsh3.words, hsh3.nd, hsh3.sound, fun H4 k4 ed => ⟨rfl, ?_⟩⟩
      have s34 : Same H3 H4 := fresh_same ne ndx k4
      have eE4 := s34 _ _ eE
      have hbase : ∀ b, (upd (upd H3 dx (.own e)) e (.ins D dx [])) b = none → (upd H2 E2 (.lst [])) b = none := fun b hb => by
        have h3 : H3 b = none := by
          cases z : H3 b with
          | none => rfl
          | some o => rw [up z] at hb; cases hb
        have hb2 : b ≠ E2 := fun z => by rw [z, eE] at h3; cases h3
        rw [upd_ne hb2]
        exact Same.back s3 h3
      have h0E : (upd H2 E2 (.lst [])) E2 ≠ none := by rw [upd_same]; exact fun z => by cases z
      refine ⟨es, eE4, Nat.lt_of_lt_of_le (by omega : _ < 100) (sz 100 (by decide)), same_over nE (s3.trans s34), es ++ [.ref e], upd_same, by rw [List.length_append]; simp; omega, ?_⟩
      obtain ⟨hi2, eq0⟩ := List.getElem?_eq_some_iff.mp hq0
      rw [List.take_succ_eq_append_getElem hi2, eq0]
      refine paired_app (prs_keep (fun ⟨e', r, h⟩ => ⟨e', r, editF_keepL eE4 keep_upd h0E (h.same s34)⟩) he) (.cons ⟨e, rfl, editF_keepL eE4 keep_upd h0E (ed.base hbase)⟩ .nil)
    rintro H3 ⟨s3, es, eE, le, he⟩
    rw [lq, List.take_length] at he
    have lee := pairs_len he
    have hsh3 : Paired (ShAt H3) vs qs := prs_keep (fun h => ShAt.same s3 h) hp
    have eD3 := s3 _ _ eD
    have P3 := P2.same s3
    have k3 := (k1.trans k2).trans (Same.keep (a := a) s3)
    have aE : E2 ≠ a := fun e => aD_of P2 nE e.symm
    have shq : ∀ q0 ∈ qs, q0.1.length ≤ 6 ∧ (∀ f ∈ q0.1, FmOk f) ∧ ∀ f ∈ q0.1, ∀ x ∈ f.pat, x ∈ most14 := fun q0 hq0 => by
      obtain ⟨j, hj⟩ := List.mem_iff_getElem?.mp hq0
      obtain ⟨x, hx⟩ : ∃ x, vs[j]? = some x := ⟨_, List.getElem?_eq_getElem (by have := (List.getElem?_eq_some_iff.mp hj).1; omega)⟩
      obtain ⟨q1, hq1, p, fl, hl, _, _, hs⟩ := prs_get hsh3 hx
      rw [hj] at hq1
      obtain rfl := Option.some.inj hq1
      exact ⟨hs.few.1, hs.sound.form, fun f hf x hx => (hs.toks f hf x hx).elim (fun z => by rw [z]; exact List.mem_cons_self) fun z => List.mem_cons_of_mem _ z⟩
    -- what is fixed
    refine ⟨Nat.zero_le _, fun x0 nx0 => ?_⟩
    have sx0 := same_upd (o := .lst []) nx0
    refine ⟨_, rfl, D1, rfl, ⟨_, SqL.of (sx0 _ _ eD3)⟩, for_list (xs := vs) (fun i σ H' => Same H3 H' ∧ ∃ (x : Addr) (fx : List Str) (y7 y8 y9 : Option V), σ = [some (.ref a), some (.ref D1), some (.ref E2), some (.ref x), none, none, none, y7, y8, y9, none] ∧ H' x = some (.lst (fx.map V.str)) ∧ fx.length ≤ 42 * i ∧ ∀ y, y ∈ fx ↔ ∃ q ∈ qs.take i, ∃ f ∈ q.1, y ∈ f.pat)
      ⟨sx0, x0, [], _, _, _, rfl, upd_same, Nat.zero_le _, by simp⟩ (fun i σ H' _ h => SqL.of (h.1 _ _ eD3)) ?_ ?_⟩
    · rintro i x σ H4 hx ⟨s4, x1, fx, y7, y8, y9, rfl, ex, lfx, hfx⟩
      obtain ⟨q0, hq0, p, fl, hl, rfl, hpp, hsh⟩ := prs_get hsh3 hx
      have hi : i < vs.length := (List.getElem?_eq_some_iff.mp hx).1
      obtain ⟨xsf, efl, hfm⟩ := hsh.fl
      have lfm := pairs_len hfm
      have l6 := hsh.few.1
      refine ⟨p, _, rfl, SqL.of (s4 _ _ hpp), rfl, _, _, rfl, _, _, rfl, rfl, ?_⟩
      refine ⟨_, rfl, fl, rfl, ⟨_, SqL.of (s4 _ _ efl)⟩, for_list (xs := xsf) (fun j σ H' => Same H3 H' ∧ ∃ (x : Addr) (fx : List Str) (y9 : Option V), σ = [some (.ref a), some (.ref D1), some (.ref E2), some (.ref x), none, none, none, some (.ref fl), some (.ref hl), y9, none] ∧ H' x = some (.lst (fx.map V.str)) ∧ fx.length ≤ 42 * i + 7 * j ∧ ∀ y, y ∈ fx ↔ (∃ q ∈ qs.take i, ∃ f ∈ q.1, y ∈ f.pat) ∨ ∃ f ∈ q0.1.take j, y ∈ f.pat)
        ⟨s4, x1, fx, y9, rfl, ex, lfx, fun y => by rw [hfx]; simp⟩ (fun j σ H' _ h => SqL.of (h.1 _ _ efl)) ?_ ?_⟩
      · rintro j x σ H5 hxj ⟨s5, x2, fx2, y9', rfl, ex2, lfx2, hfx2⟩
        obtain ⟨fm, hfj, b, ap, al, rfl, t1, t2, t3⟩ := prs_get hfm hxj
        have hj : j < xsf.length := (List.getElem?_eq_some_iff.mp hxj).1
        have hfmm := List.mem_of_getElem? hfj
        have h7 := (hsh.sound.form fm hfmm).pat.len7
        refine ⟨_, rfl, _, rfl, b, _, 0, .ref ap, rfl, rfl, ET_sq (t1.same s5), atI_nat (j := 0) rfl, ap, fm.pat.map V.str, rfl, .inr (ET_sq (t2.same s5)), fun l nl => ?_⟩
        have sl := same_upd (o := .lst (fm.pat.map V.str)) nl
        refine ⟨x2, l, _, _, rfl, rfl, sl _ _ ex2, upd_same, by rw [List.length_map, List.length_map]; exact Nat.le_trans (by omega : _ ≤ 1000) (sz 1000 (by decide)), fun x3 nx3 => ?_⟩
        have sx3 := same_upd (o := .lst (fx2.map V.str ++ fm.pat.map V.str)) nx3
        refine ⟨(s5.trans sl).trans sx3, x3, fx2 ++ fm.pat, _, rfl, by rw [upd_same, List.map_append], by rw [List.length_append]; omega, fun y => ?_⟩
        obtain ⟨hj2, ej⟩ := List.getElem?_eq_some_iff.mp hfj
        rw [List.mem_append, hfx2, List.take_succ_eq_append_getElem hj2, ej]
        simp only [List.mem_append, List.mem_singleton]
        refine ⟨fun h => ?_, fun h => ?_⟩
        · rcases h with (h | ⟨f, hf, hy⟩) | h
          · exact .inl h
          · exact .inr ⟨f, .inl hf, hy⟩
          · exact .inr ⟨fm, .inr rfl, h⟩
        · rcases h with h | ⟨f, hf | rfl, hy⟩
          · exact .inl (.inl h)
          · exact .inl (.inr ⟨f, hf, hy⟩)
          · exact .inr hy
      · rintro σ H5 ⟨s5, x2, fx2, y9', rfl, ex2, lfx2, hfx2⟩
        refine ⟨s5, x2, fx2, _, _, _, rfl, ex2, by omega, fun y => ?_⟩
        obtain ⟨hi2, ei⟩ := List.getElem?_eq_some_iff.mp hq0
        rw [hfx2, lfm, List.take_length, List.take_succ_eq_append_getElem hi2, ei]
        simp only [List.mem_append, List.mem_singleton]
        refine ⟨fun h => ?_, fun ⟨q1, hq1, f, hf, hy⟩ => ?_⟩
        · rcases h with ⟨q1, hq1, h⟩ | h
          · exact ⟨q1, .inl hq1, h⟩
          · exact ⟨q0, .inr rfl, h⟩
        · rcases hq1 with hq1 | rfl
          · exact .inl ⟨q1, hq1, f, hf, hy⟩
          · exact .inr ⟨f, hf, hy⟩
    rintro σ H4 ⟨s4, x1, fx, y7, y8, y9, rfl, ex, lfx, hfx⟩
    rw [lq, List.take_length] at hfx
    have P4 := P3.same s4
    have hfx14 : ∀ y ∈ fx, y ∈ most14 := fun y hy => by
      obtain ⟨q0, hq0, f, hf, h⟩ := (hfx y).mp hy
      exact (shq q0 hq0).2.2 f hf y h
    have x1a : x1 ≠ a := no_purse (PurseAt.of P4) ex fun y hy i z => by
      obtain ⟨t, _, rfl⟩ := List.mem_map.mp hy
      cases z
    -- how many
    refine ⟨.ref a, rfl, .ref a, rfl, a, 1001, _, rfl, P4, by omega, by decide, by decide, fun r5 H5 r50 r51 k5 P5 => ⟨sz 11 (by decide), fun L1 nL1 => ?_⟩⟩
    have sL := same_upd (o := .lst [V.int 0, .int 1, .int 2, .int 25, .int 26, .int 27, .int 60, .int 702, .int 703, .int 1000, .int r5]) nL1
    refine ⟨a, L1, _, _, rfl, P5.same sL, by omega, SqL.of upd_same, fun e => aD_of P5 nL1 e.symm, (show 0 < 11 by decide), (show 11 < 2 ^ 26 by decide), fun v H6 hv k6 P6 => ?_⟩
    obtain ⟨m, rfl, hm⟩ : ∃ m : Nat, v = .int (m : Int) ∧ m ≤ 1000 := by
      simp only [List.mem_cons, List.not_mem_nil, or_false] at hv
      rcases hv with rfl | rfl | rfl | rfl | rfl | rfl | rfl | rfl | rfl | rfl | rfl
      · exact ⟨0, rfl, by decide⟩
      · exact ⟨1, rfl, by decide⟩
      · exact ⟨2, rfl, by decide⟩
      · exact ⟨25, rfl, by decide⟩
      · exact ⟨26, rfl, by decide⟩
      · exact ⟨27, rfl, by decide⟩
      · exact ⟨60, rfl, by decide⟩
      · exact ⟨702, rfl, by decide⟩
      · exact ⟨703, rfl, by decide⟩
      · exact ⟨1000, rfl, by decide⟩
      · exact ⟨r5.toNat, by rw [show ((r5.toNat : Nat) : Int) = r5 by omega], by omega⟩
    have k46 : Keep a H4 H6 := (k5.trans (Same.keep sL)).trans k6
    obtain ⟨pp, qq, tt, ii, ePu, _⟩ := id P4
    have ex6 := k46 _ _ x1a ex
    have eE4 := s4 _ _ eE
    have eE6 := k46 _ _ aE eE4
    have eD6 := k46 _ _ aD1.symm (s4 _ _ eD3)
    have h0E : (upd H2 E2 (.lst [])) E2 ≠ none := by rw [upd_same]; exact fun z => by cases z
    have hbA : (upd H2 E2 (.lst [])) a ≠ none := by
      obtain ⟨p2, q2, t2, i2, e2, _⟩ := P2
      rw [upd_ne aE.symm, e2]
      exact fun z => by cases z
    have he6 : Paired (fun v (q0 : List Fm × List Str) => ∃ e, v = V.ref e ∧ EditAtF P w D G (upd H2 E2 (.lst [])) H6 e q0.1 q0.2) es qs := prs_keep (fun ⟨e', r, h⟩ => ⟨e', r, editF_keepL ePu k46 hbA (EditAtF.same s4 h)⟩) he
    have l10 : qs.length ≤ 10 := by omega
    have edAt : ∀ {H' : Hp}, Same H6 H' → Paired (EdAt P w D G H') es qs := fun {H'} s' => paired_mem he6 fun v q0 hq ⟨e', r, h⟩ => ⟨e', r, (EditAtF.same s' h).at, by have := (shq q0 hq).1; omega, (shq q0 hq).2.1⟩
    have edEq : ∀ {H' : Hp}, Same H6 H' → ∀ x ∈ es, ∃ e, x = .ref e ∧ EdEq D H' e := fun {H'} s' x hx => by
      obtain ⟨i, hi⟩ := List.mem_iff_getElem?.mp hx
      obtain ⟨q', _, h⟩ := prs_get (edAt s') hi
      exact edat_eq h
    have fixed_same : ∀ {fx2 : List Str}, (∀ x, x ∈ fx2 ↔ ∃ q0 ∈ qs, fixedIn q0 x) → ∀ k, freeTo (fun t => decide (S t ∈ fx2)) k = freeTo (fun t => decide (S t ∈ fx)) k := fun {fx2} h2 k => freeTo_congr (fun i => by
      rw [Bool.eq_iff_iff, decide_eq_true_iff, decide_eq_true_iff, h2, hfx]
      refine ⟨fun ⟨q0, hq, hf⟩ => ?_, fun ⟨q0, hq, f, hf, hy⟩ => ⟨q0, hq, (fixedIn_iff (shq q0 hq).2.1).mpr ⟨f, hf, hy, wAt_nohole _⟩⟩⟩
      obtain ⟨f, hf, hy, _⟩ := (fixedIn_iff (shq q0 hq).2.1).mp hf
      exact ⟨q0, hq, f, hf, hy⟩) k
    refine ⟨.ref x1, rfl, .int m, rfl, x1, fx, m, rfl, SqL.of ex6, hm, free_many hfx14 m, fun dU ws mU H7 s7 nU eU hws hlen => ?_⟩
    have eE7 := s7 _ _ eE6
    refine ⟨.ref E2, rfl, .int m, rfl, .ref E2, .int m, rfl, .inr ⟨E2, es, qs, rfl, eE7, edAt s7, l10, eds_v Z ZE eE7 (by omega) (edEq s7), .inl ⟨m, rfl, hm, fun dT H8 fx2 at_ s8 nT eT hfx2 hlen2 => ?_⟩⟩⟩
    have ewT : freeTo (fun t => decide (S t ∈ fx2)) at_ = ws := by
      rw [fixed_same hfx2] at hlen2 ⊢
      rw [hws]
      exact freeTo_same (by rw [hlen2, ← hlen, hws])
    rw [ewT] at eT
    have lw : ws.length ≤ 1000 := by omega
    have eU8 := s8 _ _ eU
    have eE8 := s8 _ _ eE7
    refine ⟨.ref dT, rfl, .ref dU, rfl, .ref dT, .ref dU, rfl, vlE (k := 6) lw eT eU8, fun H9 s9 => ⟨true, rfl, iteF ?_⟩⟩
    have s79 := s8.trans s9
    have eE9 := s9 _ _ eE8
    have eT9 := s9 _ _ eT
    have eD9 := s79 _ _ (s7 _ _ eD6)
    refine ⟨.ref E2, rfl, E2, es, rfl, .inl (SqL.of eE9), .ref D1, rfl, D1, vs, rfl, .inl (SqL.of eD9), rfl, false, by rw [lee, lq, decide_eq_true rfl]; rfl, iteF ?_⟩
    refine ⟨.ref dT, rfl, .inl ⟨rfl, _, SqL.of eT9⟩, dT, _, .str "x", rfl, rfl, eT9, Nat.lt_of_lt_of_le (by rw [vl_len]; omega : _ < 100000) (sz _ (Nat.le_refl _)), ?_⟩
    have s710 : Same H7 (upd H9 dT (.lst (vl ws ++ [V.str "x"]))) := same_over nT s79
    generalize upd H9 dT (.lst (vl ws ++ [V.str "x"])) = H10 at s710 ⊢
    have s610 := s7.trans s710
    have eE10 := s710 _ _ eE7
    -- one edition more
    refine ⟨.ref E2, rfl, .inl ⟨rfl, _, SqL.of eE10⟩, sz 2 (by decide), fun p1 o1 n1 t1 => ⟨sz 1 (by decide), fun p2 o2 n2 t2 => ⟨sz 3 (by decide), fun p3 o3 n3 t3 => ⟨sz 1 (by decide), fun l1 m1 => ⟨Nat.zero_le _, fun l2 m2 => fun e dx ne ndx hne => ?_⟩⟩⟩⟩⟩
    have w1 := same_upd (o := .frz o1 (.tup [V.str "x", .str "_"])) n1
    have w2 := same_upd (o := .frz o2 (.tup [V.int 3])) n2
    have w3 := same_upd (o := .frz o3 (.tup [V.ref p1, V.int 3, V.ref p2])) n3
    have w4 := same_upd (o := .lst [V.ref p3]) m1
    have w5 := same_upd (o := .lst []) m2
    have hform : FormAt (upd (upd (upd (upd (upd H10 p1 (.frz o1 (.tup [V.str "x", .str "_"]))) p2 (.frz o2 (.tup [V.int 3]))) p3 (.frz o3 (.tup [V.ref p1, V.int 3, V.ref p2]))) l1 (.lst [V.ref p3])) l2 (.lst [])) (.ref p3) ⟨["x", "_"], 3, [3]⟩ :=
      ⟨p3, p1, p2, rfl, t3.same (w4.trans w5), t1.same (w2.trans (w3.trans (w4.trans w5))), t2.same (w3.trans (w4.trans w5))⟩
    have hl1 := w5 _ _ (upd_same (H := upd (upd (upd H10 p1 (.frz o1 (.tup [V.str "x", .str "_"]))) p2 (.frz o2 (.tup [V.int 3]))) p3 (.frz o3 (.tup [V.ref p1, V.int 3, V.ref p2]))) (a := l1) (o := .lst [V.ref p3]))
    have hl2 := upd_same (H := upd (upd (upd (upd H10 p1 (.frz o1 (.tup [V.str "x", .str "_"]))) p2 (.frz o2 (.tup [V.int 3]))) p3 (.frz o3 (.tup [V.ref p1, V.int 3, V.ref p2]))) l1 (.lst [V.ref p3])) (a := l2) (o := .lst [])
    have wA := (((w1.trans w2).trans w3).trans w4).trans w5
    generalize upd (upd (upd (upd (upd H10 p1 (.frz o1 (.tup [V.str "x", .str "_"]))) p2 (.frz o2 (.tup [V.int 3]))) p3 (.frz o3 (.tup [V.ref p1, V.int 3, V.ref p2]))) l1 (.lst [V.ref p3])) l2 (.lst []) = HA at wA hform hl1 hl2 ne ndx ⊢
    have up : ∀ {b : Addr} {o : HO}, HA b = some o → (upd (upd HA dx (.own e)) e (.ins D dx [])) b = some o := fun {b o} hb => by
      rw [upd_ne (ne_of_none hb ne), upd_ne (ne_of_none hb ndx)]
      exact hb
    have s2A : Same H2 H3 := s3
    refine ⟨e, dx, l1, l2, [.ref p3], [⟨["x", "_"], 3, [3]⟩], [], rfl, upd_same, up hl1, .cons (hform.same fun b o hb => up hb) .nil, up hl2, by decide, fun x h => (nomatch h), List.nodup_nil, sound_x, fun H11 k11 ed => ⟨rfl, ?_⟩⟩
    have sA11 : Same HA H11 := fresh_same ne ndx k11
    have s711 : Same H7 H11 := s710.trans (wA.trans sA11)
    have s611 := s7.trans s711
    have eE11 := s611 _ _ eE6
    have hbase : ∀ b, (upd (upd HA dx (.own e)) e (.ins D dx [])) b = none → (upd H2 E2 (.lst [])) b = none := fun b hb => by
      have hA : HA b = none := by
        cases z : HA b with
        | none => rfl
        | some o => rw [up z] at hb; cases hb
      have h10 := Same.back wA hA
      have hb2 : b ≠ E2 := fun z => by rw [z, eE10] at h10; cases h10
      have h6 := Same.back s610 h10
      have h4 : H4 b = none := by
        cases z : H4 b with
        | none => rfl
        | some o =>
          by_cases c : b = a
          · rw [c] at h6
            obtain ⟨p2, q2, t2, i2, e2, _⟩ := P6
            rw [e2] at h6
            cases h6
          · rw [k46 _ _ c z] at h6
            cases h6
      rw [upd_ne hb2]
      exact Same.back (s3.trans s4) h4
    have hes12 : Paired (fun v (q0 : List Fm × List Str) => ∃ z, v = V.ref z ∧ EditAtF P w D G (upd H2 E2 (.lst [])) (upd H11 E2 (.lst (es ++ [.ref e]))) z q0.1 q0.2) es qs := prs_keep (fun ⟨e', r, h⟩ => ⟨e', r, editF_keepL eE11 keep_upd h0E (h.same s611)⟩) he6
    have he12 : Paired (fun v (q0 : List Fm × List Str) => ∃ z, v = V.ref z ∧ EditAtF P w D G (upd H2 E2 (.lst [])) (upd H11 E2 (.lst (es ++ [.ref e]))) z q0.1 q0.2) (es ++ [.ref e]) (qs ++ [([⟨["x", "_"], 3, [3]⟩], [])]) :=
      paired_app hes12 (.cons ⟨e, rfl, editF_keepL eE11 keep_upd h0E (ed.base hbase)⟩ .nil)
    have k7E : Keep E2 H7 (upd H11 E2 (.lst (es ++ [.ref e]))) := fun b o hb hbo => by
      rw [upd_ne hb]
      exact s711 _ _ hbo
    have kA12 : Keep a H2 (upd H11 E2 (.lst (es ++ [.ref e]))) := fun b o hb hbo => by
      rw [upd_ne (ne_of_none hbo nE)]
      exact s611 _ _ (k46 _ _ hb ((s3.trans s4) _ _ hbo))
    have P12 : Purse (upd H11 E2 (.lst (es ++ [.ref e]))) a _ := (P6.same s611).keep keep_upd aE.symm
    have eE12 : (upd H11 E2 (.lst (es ++ [.ref e]))) E2 = some (.lst (es ++ [.ref e])) := upd_same
    refine ⟨E2, es, .ref e, rfl, rfl, eE11, Nat.lt_of_lt_of_le (by omega : _ < 100) (sz 100 (by decide)), ?_⟩
    have eU12 := k7E _ _ (ne_of_none eE6 nU).symm eU
    generalize upd H11 E2 (.lst (es ++ [.ref e])) = H12 at hes12 he12 kA12 P12 eE12 eU12 ⊢
    have ed0 : ∀ {H' : Hp}, Same H12 H' → Paired (EdAt P w D G H') es qs := fun {H'} s' => paired_mem hes12 fun v q0 hq ⟨e', r, h⟩ => ⟨e', r, (EditAtF.same s' h).at, by have := (shq q0 hq).1; omega, (shq q0 hq).2.1⟩
    have shq2 : ∀ q0 ∈ qs ++ [([⟨["x", "_"], 3, [3]⟩], [])], q0.1.length ≤ 80 ∧ ∀ f ∈ q0.1, FmOk f := fun q0 hq => by
      rw [List.mem_append, List.mem_singleton] at hq
      rcases hq with hq | rfl
      · exact ⟨by have := (shq q0 hq).1; omega, (shq q0 hq).2.1⟩
      · exact ⟨(show 1 ≤ 80 by decide), sound_x.form⟩
    have ed1 : ∀ {H' : Hp}, Same H12 H' → Paired (EdAt P w D G H') (es ++ [.ref e]) (qs ++ [([⟨["x", "_"], 3, [3]⟩], [])]) := fun {H'} s' => paired_mem he12 fun v q0 hq ⟨e', r, h⟩ => ⟨e', r, (EditAtF.same s' h).at, (shq2 q0 hq).1, (shq2 q0 hq).2⟩
    have eqOf : ∀ {H' : Hp} {xs : List V} {q2 : List (List Fm × List Str)}, Paired (EdAt P w D G H') xs q2 → ∀ x ∈ xs, ∃ e, x = .ref e ∧ EdEq D H' e := fun {H' xs q2} hp x hx => by
      obtain ⟨i, hi⟩ := List.mem_iff_getElem?.mp hx
      obtain ⟨q', _, h⟩ := prs_get hp hi
      exact edat_eq h
    -- without it
    refine ⟨.ref E2, rfl, 1, rfl, -1, rfl, E2, _, rfl, SqL.of eE12, fun q1 m1 => ?_⟩
    have hcut : cutV (es ++ [V.ref e]) none (some (-1)) = es := by
      have h1 : HT.sIx (es ++ [V.ref e]).length 0 none = 0 := rfl
      have h2 : HT.sIx (es ++ [V.ref e]).length (es ++ [V.ref e]).length (some (-1)) = es.length := by
        show (if (-1 : Int) < 0 then ((-1 : Int) + ((es ++ [V.ref e]).length : Int)).toNat else min (-1 : Int).toNat (es ++ [V.ref e]).length) = es.length
        rw [if_pos (by decide), List.length_append, List.length_singleton]
        omega
      unfold cutV
      rw [h1, h2]
      simp
    rw [hcut]
    have s13 := same_upd (o := .lst es) m1
    have eq13 : (upd H12 q1 (.lst es)) q1 = some (.lst es) := upd_same
    generalize upd H12 q1 (.lst es) = H13 at s13 eq13 ⊢
    refine ⟨.int m, rfl, .ref q1, .int m, rfl, .inr ⟨q1, es, qs, rfl, eq13, ed0 s13, l10, eds_v Z ZE eq13 (by omega) (eqOf (ed0 s13)), .inl ⟨m, rfl, hm, fun dT2 H14 fx3 at3 s14 nT2 eT2 hfx3 hlen3 => ?_⟩⟩⟩
    have ewT2 : freeTo (fun t => decide (S t ∈ fx3)) at3 = ws := by
      rw [fixed_same hfx3] at hlen3 ⊢
      rw [hws]
      exact freeTo_same (by rw [hlen3, ← hlen, hws])
    rw [ewT2] at eT2
    have s1214 := s13.trans s14
    refine ⟨.ref dU, rfl, .ref dT2, .ref dU, rfl, vlE (k := 6) lw eT2 (s1214 _ _ eU12), fun H15 s15 => ⟨true, rfl, iteF ?_⟩⟩
    have s1215 := s1214.trans s15
    -- with it
    refine ⟨.ref E2, rfl, .ref E2, .int 40, rfl, .inr ⟨E2, _, _, rfl, s1215 _ _ eE12, ed1 s1215, by rw [List.length_append]; show qs.length + 1 ≤ 10; omega, eds_v Z ZE (s1215 _ _ eE12) (by rw [List.length_append]; show es.length + 1 ≤ 1000; omega) (eqOf (ed1 s1215)), .inl ⟨40, rfl, by decide, fun dX H16 fx4 at4 s16 nX eX hfx4 hlen4 => ?_⟩⟩⟩
    have hx4 : ("x" : Str) ∈ fx4 := (hfx4 _).mpr ⟨([⟨["x", "_"], 3, [3]⟩], []), List.mem_append.mpr (.inr List.mem_cons_self), (fixedIn_iff sound_x.form).mpr ⟨_, List.mem_cons_self, List.mem_cons_self, by decide +kernel⟩⟩
    have hno : inV (.str "x") (vl (freeTo (fun t => decide (S t ∈ fx4)) at4)) = false := by
      rw [vl_map, inV_strs]
      refine decide_eq_false fun h => ?_
      obtain ⟨t, ht, et⟩ := List.mem_map.mp h
      have : (!decide (S t ∈ fx4)) = true := (List.mem_filter.mp ht).2
      rw [et, decide_eq_true hx4] at this
      cases this
    refine ⟨dX, _, rfl, .inl (SqL.of eX), rfl, by rw [vl_map]; exact flat_strs _, true, ?_, iteT ?_⟩
    · rw [if_pos rfl, hno]
      rfl
    have s1216 := s1215.trans s16
    refine ⟨.ref E2, rfl, E2, _, _, rfl, s1216 _ _ eE12, ed1 s1216, by rw [List.length_append]; show qs.length + 1 ≤ 10; omega, by rw [List.length_append]; show 1 ≤ es.length + 1; omega, fun H17 s17 => ?_⟩
    have s1217 := s1216.trans s17
    refine q _ (((k1.trans k2).trans kA12).trans (Same.keep s1217)) ((P12.same s1217).more (by omega))
end
end K2

set_option Elab.async false
set_option linter.all false
set_option maxRecDepth 100000
set_option maxHeartbeats 8000000
/-! k03: the law, whole -/
namespace K2
open PySem PySem.Spec PyProof.Rows L2 EL LW ND
open Ln (L isTok isWord isNum isSign isQuoted isLet isFig scan jn)
abbrev sLaw3 : Stmt := topS 96
abbrev nLw3 : List Str := ["_law_script", "_law_rows", "_law_purse_here", "_law_word_here"]
theorem scLaw3 : FnScope nLw3 ["_law_script"] (defScope sLaw3) := ⟨rfl, rfl, rfl, by decide +kernel, rfl, by decide +kernel, by decide +kernel⟩
/-! ### a word, many times -/
theorem mul_nine {x : Str} (h : 1 ≤ x.length) : cp (Txt.mul x 9) = (List.replicate 9 (cp x)).flatten := by
  have e : Txt.mul x 9 = ⟨(List.replicate 9 x.cps).foldl (· ++ ·) #[]⟩ := by
    unfold Txt.mul
    rw [if_neg (by decide), if_neg]
    · rfl
    · simp only [Bool.or_eq_true, beq_iff_eq]
      omega
  rw [e]
  show ((List.replicate 9 x.cps).foldl (· ++ ·) #[]).toList = _
  rw [foldl_copies]
  rfl
def rTimes9 : R2 := fun x y H Q => ∃ z : Str, x = .str z ∧ y = .int 9 ∧ z.length ≤ 1000 ∧ Q (.str (Txt.mul z 9)) H
theorem op_times9 {X : Cx} : OpR X (binaryOp .Mult) rTimes9 := by
  intro pins s σ H x y v u Q I rx ry h
  obtain ⟨z, rfl, rfl, hz1, q⟩ := h
  obtain ⟨t, rfl⟩ := rx
  obtain ⟨t2, rfl⟩ := ry
  have hz : (100000 : Nat) ≤ sizeLine := by rw [sizeLine_eq]; decide
  refine SB.mul ?_ fun t' k => ⟨.str _, H, I.tok k, ⟨t', rfl⟩, q⟩
  refine ⟨by decide, fun _ _ => ?_, fun _ _ => ?_⟩
  · have : ((2 : Int) ^ 63 - 1) / 9 = 1024819115206086200 := by decide +kernel
    rw [this]
    omega
  · show decide _ = false
    refine decide_eq_false ?_
    show ¬ (z.length * 9 > sizeLine)
    omega
theorem nine_no {t : L} (h9 : 9 ≤ t.length) (hl : ∀ c ∈ t, c ≠ 39) : isTok t = false := by
  rw [← Bool.not_eq_true]
  intro h
  unfold isTok at h
  simp only [Bool.or_eq_true] at h
  rcases h with ((((h | h) | h) | h) | h) | h
  · have : t = [40] := by simpa using h
    rw [this] at h9
    exact absurd h9 (by decide)
  · have : t = [41] := by simpa using h
    rw [this] at h9
    exact absurd h9 (by decide)
  · have := (Ln.run_all' h).2.1
    omega
  · unfold isSign at h
    simp only [Bool.and_eq_true, decide_eq_true_eq] at h
    omega
  · unfold isNum at h
    simp only [Bool.and_eq_true] at h
    have := (Ln.run_all' h.1).2.1
    omega
  · unfold isQuoted at h
    simp only [Bool.and_eq_true, beq_iff_eq] at h
    match t, h9, hl, h.1 with
    | c :: cs, _, hl, h1 =>
      have : c = 39 := by simpa using h1
      exact hl c List.mem_cons_self this
theorem bigA_no {t : L} (h1 : 1 ≤ t.length) (hl : ∀ c ∈ t, 97 ≤ c) : isTok (t ++ [65]) = false := by
  rw [← Bool.not_eq_true]
  intro h
  have h2 : 2 ≤ (t ++ [65]).length := by rw [List.length_append]; simp; omega
  have hm : (65 : Nat) ∈ t ++ [65] := by simp
  unfold isTok at h
  simp only [Bool.or_eq_true] at h
  rcases h with ((((h | h) | h) | h) | h) | h
  · have : t ++ [65] = [40] := by simpa using h
    rw [this] at hm
    exact absurd hm (by decide)
  · have : t ++ [65] = [41] := by simpa using h
    rw [this] at hm
    exact absurd hm (by decide)
  · exact absurd ((Ln.run_all' h).2.2 65 hm) (by decide)
  · unfold isSign at h
    simp only [Bool.and_eq_true, decide_eq_true_eq] at h
    omega
  · unfold isNum at h
    simp only [Bool.and_eq_true] at h
    exact absurd ((Ln.run_all' h.1).2.2 65 hm) (by decide)
  · unfold isQuoted at h
    simp only [Bool.and_eq_true, beq_iff_eq] at h
    match t, h1, hl, h.1 with
    | c :: cs, _, hl, h1 =>
      have : c = 39 := by simpa using h1
      have := hl c List.mem_cons_self
      omega
theorem kind_word {x : Str} (h : isWord (cp x) = true) : kindOf x = Str.ofString "word" := by
  unfold kindOf
  rw [if_neg, if_neg, if_pos h]
  · intro e
    rw [e] at h
    exact absurd h (by decide +kernel)
  · intro e
    rw [e] at h
    exact absurd h (by decide +kernel)
theorem kind_quoted {x : Str} (h : isQuoted (cp x) = true) : kindOf x = Str.ofString "quoted" := by
  have h39 : (39 : Nat) ∈ cp x := by
    unfold isQuoted at h
    simp only [Bool.and_eq_true, beq_iff_eq] at h
    match hx : cp x, h.1 with
    | c :: cs, h1 =>
      have : c = 39 := by simpa using h1
      rw [this]
      exact List.mem_cons_self
    | [], h1 => exact absurd h1 (by simp)
  unfold kindOf
  rw [if_neg, if_neg, if_neg, if_neg, if_pos h]
  · intro z
    unfold isNum at z
    simp only [Bool.and_eq_true] at z
    exact absurd ((Ln.run_all' z.1).2.2 39 h39) (by decide)
  · intro z
    exact absurd ((Ln.run_all' z).2.2 39 h39) (by decide)
  · intro e
    rw [e] at h
    exact absurd h (by decide +kernel)
  · intro e
    rw [e] at h
    exact absurd h (by decide +kernel)
section
variable {D : Addr} {H : Hp} {x : Str}
theorem row_word (h1 : 1 ≤ x.length) (h8 : x.length ≤ 8) (hl : Letters x) : KRow D H (.str x) "word" := row_tok (by
  have hw := letters_word h1 h8 hl
  rw [decide_eq_true (by omega), word_tok hw, decide_eq_true (kind_word hw)]
  rfl)
theorem row_bigA (h1 : 1 ≤ x.length) (h8 : x.length ≤ 8) (hl : Letters x) : KRow D H (.str (x ++ Str.ofString "A")) "" := row_no (by
  have e : cp (x ++ Str.ofString "A") = cp x ++ [65] := cp_app x _
  have l : (x ++ Str.ofString "A").length = x.length + 1 := by rw [← cp_len, e, List.length_append, cp_len]; rfl
  rw [e, decide_eq_true (by omega), show isTok (cp x ++ [65]) = false from bigA_no (by rw [cp_len]; exact h1) fun c hc => (hl c hc).1]
  rfl)
theorem row_quote (h1 : 1 ≤ x.length) (h8 : x.length ≤ 8) (hl : Letters x) : KRow D H (.str (Str.ofString "'" ++ x)) "quoted" := row_tok (by
  have e : cp (Str.ofString "'" ++ x) = 39 :: cp x := cp_app _ x
  have l : (Str.ofString "'" ++ x).length = x.length + 1 := by rw [← cp_len, e, List.length_cons, cp_len]
  have hq : isQuoted (cp (Str.ofString "'" ++ x)) = true := by
    rw [e]
    exact letters_word h1 h8 hl
  rw [decide_eq_true (by omega), quoted_tok hq, decide_eq_true (kind_quoted hq)]
  rfl)
theorem row_nine (h1 : 1 ≤ x.length) (h8 : x.length ≤ 8) (hl : Letters x) : KRow D H (.str (Txt.mul x 9)) "" := row_no (by
  have e := mul_nine h1
  have l : (cp (Txt.mul x 9)).length = 9 * x.length := by rw [e, List.length_flatten, List.map_replicate, List.sum_replicate_nat, cp_len]
  have l2 : (Txt.mul x 9).length = 9 * x.length := by rw [← cp_len, l]
  rw [decide_eq_true (by omega), nine_no (by omega) fun c hc z => ?_]
  · rfl
  rw [e] at hc
  obtain ⟨y, hy, hcy⟩ := List.mem_flatten.mp hc
  obtain rfl := List.eq_of_mem_replicate hy
  have := (hl c hcy).1
  omega)
end
section
variable {P : Program} {w : World} {K : PySem.W.Frag} {mg : Str → Option Value} {base : Heap} {D C : Addr}
def spLaw3 (K : PySem.W.Frag) : Sp := fun vs H Q _ => ∃ (a : Addr) (ns : List Int), vs = [.ref a] ∧ SqL K H a (ns.map V.int) ∧ ns.length ≤ 63 ∧ ∀ H', Q (.bl true) H'
theorem ok_law3 {f : Addr} {fd : FuncData} (F : Fun K "law" "law" sLaw3 f fd)
    (edges : Fx P w K mg base CX0 11 "_law_edges" [] (spEdges D)) (purses : Fx P w K mg base CX0 2 "_law_purses" ["_law_script", "_law_few"] (spPurses K)) (word : Fx P w K mg base CX0 3 "_law_word" ["_law_purse_here"] spWord)
    (unmR : Fx P w K mg base CX0 10 "_law_unmarked_right" ["_law_purse_here"] spUnmR) (freeR : Fx P w K mg base CX0 11 "_law_free_right" ["_law_purse_here"] spFreeR)
    (cut : Fx P w K mg base (L2.CX P w) 6 "cut" ["line"] (spCut K C)) (cutK : KBinds K cut.fd ["line"] ["line"] only only)
    (lineOf : Fx P w K mg base (L2.CX P w) 7 "line_of" ["text"] (spLine K C jn)) (lineK : KBinds K lineOf.fd ["text"] ["text"] only only)
    (tight : Fx P w K mg base (L2.CX P w) 7 "tight_line" ["text"] (spLine K C tightL)) (tightK : KBinds K tight.fd ["text"] ["text"] only only)
    (kinds : Fx P w K mg base CX0 10 "_law_kinds_right" ["_law_rows"] (spKinds D)) : FnOk P w K mg base CX0 12 f fd ["_law_script"] (spLaw3 K) := by
  refine F.ok scLaw3 (fun vs H Q E h => ?_) (fun cdv A outer s H vs Q E hr h => ?_)
  · obtain ⟨a, ns, rfl, _⟩ := h
    rfl
  · obtain ⟨a, ns, rfl, hS, hl, q⟩ := h
    have nd := scLaw3.nd
    have r10 := hr.mono (by decide : 10 ≤ 11)
    have r7 := hr.mono (by decide : 7 ≤ 11)
    have r6 := hr.mono (by decide : 6 ≤ 11)
    have r3 := hr.mono (by decide : 3 ≤ 11)
    have r2 := hr.mono (by decide : 2 ≤ 11)
    refine ⟨_, pss_cons (ps_set (i := 1) nd rfl (.inl rfl) (pe_call0 edges.G hr (by rfl) edges.g edges.kp edges.b .nil pass0))
      (pss_cons (ps_for PassesOwn.never rfl (pi_list (pe_call purses.G r2 (by rfl) purses.g purses.kp purses.b .nil pass0 (pa_cons (pv 0) (pa_cons pe_int pa_nil)))) (pg_name (i := 2) nd rfl (.inl rfl))
        (pss_cons (ps_set (i := 3) nd rfl (.inl rfl) (pe_call word.G r3 (by rfl) word.g word.kp word.b .nil pass0 (pa_cons (pv 2) pa_nil)))
        (pss_cons (ps_set (i := 1) nd rfl (.inl rfl) (pe_op op_cat (pv 1) (pe_lst (pa_cons (pe_tup (pa_cons (pv 3) (pa_cons pe_str pa_nil))) (pa_cons (pe_tup (pa_cons (pe_op op_add_str (pv 3) pe_str) (pa_cons pe_str pa_nil)))
            (pa_cons (pe_tup (pa_cons (pe_op op_add_str pe_str (pv 3)) (pa_cons pe_str pa_nil))) (pa_cons (pe_tup (pa_cons (pe_op op_times9 (pv 3) pe_int) (pa_cons pe_str pa_nil))) pa_nil)))))))
        (pss_one (ps_if (PW.pt (pw_or (pt_not (pt_val (pe_call unmR.G r10 (by rfl) unmR.g unmR.kp unmR.b .nil pass0 (pa_cons (pv 2) pa_nil)))) (pw_or1 (pt_not (pt_val (pe_call freeR.G hr (by rfl) freeR.g freeR.kp freeR.b .nil pass0 (pa_cons (pv 2) pa_nil))))))) (pss_one (ps_ret pe_bl)) pss_nil)))))
      (pss_cons (ps_if (PW.pt (pw_or (pt_cmpR (op_neD hr.units) (pe_callK0 cut.G r6 (by rfl) cut.g cut.kp cutK passN (pk_cons pe_str pk_nil)) (pe_lst (pa_cons pe_str (pa_cons pe_str (pa_cons pe_str pa_nil)))) (nomark _))
          (pw_or (pt_cmpR op_ne (pe_callK0 lineOf.G r7 (by rfl) lineOf.g lineOf.kp lineK passN (pk_cons (pe_lst (pa_cons pe_str (pa_cons pe_str pa_nil))) pk_nil)) pe_str (nomark _))
          (pw_or1 (pt_cmpR op_ne (pe_callK0 tight.G r7 (by rfl) tight.g tight.kp tightK passN (pk_cons (pe_lst (pa_cons pe_str (pa_cons pe_str pa_nil))) pk_nil)) pe_str (nomark _)))))) (pss_one (ps_ret pe_bl)) pss_nil)
      (pss_one (ps_ret (pe_call kinds.G r10 (by rfl) kinds.g kinds.kp kinds.b .nil pass0 (pa_cons (pv 1) pa_nil)))))), ?_⟩
    refine ⟨rfl, fun R ws H0 s0 eR lR hR => ?_⟩
    refine ⟨.ref a, rfl, a, ns, 2, rfl, SqL.same s0 hS, hl, by decide, fun H1 p as s1 np ep l60 ndp pas hP => ⟨p, rfl, ⟨_, SqL.of ep⟩, ?_⟩⟩
    refine for_list (xs := as.map V.ref) (fun i σ H' => (∃ (R : Addr) (ws : List V) (y2 y3 : Option V), σ = [some (.ref a), some (.ref R), y2, y3] ∧ H' R = some (.lst ws) ∧ ws.length ≤ 200 + 4 * i ∧ ∀ v ∈ ws, RowK D H' v) ∧ H' p = some (.lst (as.map V.ref)) ∧ ∀ (j : Nat) b, i ≤ j → as[j]? = some b → Purse H' b 0)
      ⟨⟨R, ws, _, _, rfl, s1 _ _ eR, lR, fun v hv => (hR v hv).same s1⟩, ep, fun j b _ hb => (hP b (List.mem_of_getElem? hb)).1⟩ (fun i σ H' _ h => SqL.of h.2.1) ?_ ?_
    · rintro i x σ H2 hx ⟨⟨R2, ws2, y2, y3, rfl, eR2, lR2, hR2⟩, ep2, hP2⟩
      rw [List.getElem?_map] at hx
      obtain ⟨b, hb, rfl⟩ := Option.map_eq_some_iff.mp hx
      obtain ⟨hbi, gbi⟩ := List.getElem?_eq_some_iff.mp hb
      have li : i < 60 := by omega
      have hpb : p ≠ b := fun e => pas (e ▸ List.mem_of_getElem? hb)
      have Pb := hP2 i b (Nat.le_refl _) hb
      have fin : ∀ H3, Keep b H2 H3 → H3 p = some (.lst (as.map V.ref)) ∧ ∀ (j : Nat) c, i + 1 ≤ j → as[j]? = some c → Purse H3 c 0 := fun H3 k3 => by
        refine ⟨k3 _ _ hpb ep2, fun j c hj hc => ?_⟩
        refine (hP2 j c (by omega) hc).keep k3 fun e => ?_
        obtain ⟨hj2, gj⟩ := List.getElem?_eq_some_iff.mp hc
        exact (List.pairwise_iff_getElem.mp ndp) i j hbi hj2 (by omega) (by rw [gbi, gj, e])
      have nRb : R2 ≠ b := no_purse (PurseAt.of Pb) eR2 fun y hy j z => by
        obtain ⟨t, x, due, e, _⟩ := hR2 y hy
        rw [e] at z
        cases z
      refine ⟨.ref b, rfl, b, 0, rfl, Pb, by decide, fun x H3 h1 h8 hlx k3 P3 => ?_⟩
      have eR3 := k3 _ _ nRb eR2
      have hR3 : ∀ v ∈ ws2, RowK D H3 v := fun v hv => (hR2 v hv).keepP (PurseAt.of Pb) k3
      have bx : x.length + 1 ≤ sizeLine := by have := sz 100 (by decide); omega
      refine ⟨.ref R2, rfl, .str x, rfl, sz 2 (by decide), fun t1 n1 => ⟨.str x, rfl, x, Str.ofString "A", rfl, rfl, bx, sz 2 (by decide), fun t2 n2 => ⟨.str x, rfl, Str.ofString "'", x, rfl, rfl, by show 1 + x.length ≤ sizeLine; omega, sz 2 (by decide), fun t3 n3 => ⟨.str x, rfl, x, rfl, rfl, by omega, sz 2 (by decide), fun t4 n4 => ⟨sz 4 (by decide), fun l nl => ?_⟩⟩⟩⟩⟩
      have u1 := same_upd (o := .tup [V.str x, .str "word"]) n1
      have u2 := same_upd (o := .tup [V.str (x ++ Str.ofString "A"), .str ""]) n2
      have u3 := same_upd (o := .tup [V.str (Str.ofString "'" ++ x), .str "quoted"]) n3
      have u4 := same_upd (o := .tup [V.str (Txt.mul x 9), .str ""]) n4
      have u5 := same_upd (o := .lst [V.ref t1, .ref t2, .ref t3, .ref t4]) nl
      have z4 := u5 _ _ (upd_same (H := upd (upd (upd H3 t1 (.tup [V.str x, .str "word"])) t2 (.tup [V.str (x ++ Str.ofString "A"), .str ""])) t3 (.tup [V.str (Str.ofString "'" ++ x), .str "quoted"])) (a := t4) (o := .tup [V.str (Txt.mul x 9), .str ""]))
      have z3 := u5 _ _ (u4 _ _ (upd_same (H := upd (upd H3 t1 (.tup [V.str x, .str "word"])) t2 (.tup [V.str (x ++ Str.ofString "A"), .str ""])) (a := t3) (o := .tup [V.str (Str.ofString "'" ++ x), .str "quoted"])))
      have z2 := u5 _ _ (u4 _ _ (u3 _ _ (upd_same (H := upd H3 t1 (.tup [V.str x, .str "word"])) (a := t2) (o := .tup [V.str (x ++ Str.ofString "A"), .str ""]))))
      have z1 := u5 _ _ (u4 _ _ (u3 _ _ (u2 _ _ (upd_same (H := H3) (a := t1) (o := .tup [V.str x, .str "word"])))))
      have z5 := upd_same (H := upd (upd (upd (upd H3 t1 (.tup [V.str x, .str "word"])) t2 (.tup [V.str (x ++ Str.ofString "A"), .str ""])) t3 (.tup [V.str (Str.ofString "'" ++ x), .str "quoted"])) t4 (.tup [V.str (Txt.mul x 9), .str ""])) (a := l) (o := .lst [V.ref t1, .ref t2, .ref t3, .ref t4])
      have u := (((u1.trans u2).trans u3).trans u4).trans u5
      generalize upd (upd (upd (upd (upd H3 t1 (.tup [V.str x, .str "word"])) t2 (.tup [V.str (x ++ Str.ofString "A"), .str ""])) t3 (.tup [V.str (Str.ofString "'" ++ x), .str "quoted"])) t4 (.tup [V.str (Txt.mul x 9), .str ""])) l (.lst [V.ref t1, .ref t2, .ref t3, .ref t4]) = H4 at z1 z2 z3 z4 z5 u ⊢
      refine ⟨R2, l, _, _, rfl, rfl, u _ _ eR3, z5, Nat.le_trans (by show ws2.length + 4 ≤ 1000; omega) (sz 1000 (by decide)), fun q1 m1 => ?_⟩
      have u6 := same_upd (o := .lst (ws2 ++ [V.ref t1, .ref t2, .ref t3, .ref t4])) m1
      have z6 : (upd H4 q1 (.lst (ws2 ++ [V.ref t1, .ref t2, .ref t3, .ref t4]))) q1 = some (.lst (ws2 ++ [V.ref t1, .ref t2, .ref t3, .ref t4])) := upd_same
      generalize upd H4 q1 (.lst (ws2 ++ [V.ref t1, .ref t2, .ref t3, .ref t4])) = H5 at u6 z6 ⊢
      have u36 := u.trans u6
      have hR5 : ∀ v ∈ ws2 ++ [V.ref t1, .ref t2, .ref t3, .ref t4], RowK D H5 v := fun v hv => by
        rw [List.mem_append] at hv
        rcases hv with hv | hv
        · exact (hR3 v hv).same u36
        · simp only [List.mem_cons, List.not_mem_nil, or_false] at hv
          rcases hv with rfl | rfl | rfl | rfl
          · exact ⟨t1, _, _, rfl, u6 _ _ z1, row_word h1 h8 hlx⟩
          · exact ⟨t2, _, _, rfl, u6 _ _ z2, row_bigA h1 h8 hlx⟩
          · exact ⟨t3, _, _, rfl, u6 _ _ z3, row_quote h1 h8 hlx⟩
          · exact ⟨t4, _, _, rfl, u6 _ _ z4, row_nine h1 h8 hlx⟩
      have P5 := P3.same u36
      have nq : q1 ≠ b := no_purse (PurseAt.of P5) z6 fun y hy j z => by
        obtain ⟨t, x, due, e, _⟩ := hR5 y hy
        rw [e] at z
        cases z
      refine ⟨.ref b, rfl, b, _, rfl, P5, by decide, fun H6 k6 P6 => ⟨true, rfl, iteF ?_⟩⟩
      have hR6 : ∀ v ∈ ws2 ++ [V.ref t1, .ref t2, .ref t3, .ref t4], RowK D H6 v := fun v hv => (hR5 v hv).keepP (PurseAt.of P5) k6
      refine ⟨.ref b, rfl, b, _, rfl, P6, by decide, fun H7 k7 P7 => ⟨true, rfl, iteF ?_⟩⟩
      refine ⟨⟨q1, _, _, _, rfl, k7 _ _ nq (k6 _ _ nq z6), by rw [List.length_append]; show ws2.length + 4 ≤ 200 + 4 * (i + 1); omega, fun v hv => (hR6 v hv).keepP (PurseAt.of P6) k7⟩, fin H7 ((k3.trans (Same.keep u36)).trans (k6.trans k7))⟩
    · rintro σ H2 ⟨⟨R2, ws2, y2, y3, rfl, eR2, lR2, hR2⟩, _, _⟩
      have hsc : scan (cp (Str.ofString "a(7")) = [[97], [40], [55]] := by decide +kernel
      refine ⟨_, rfl, .inl ⟨Str.ofString "a(7", rfl, by decide, fun _ H3 c s3 nc ec => ?_, fun z => absurd z (by decide +kernel)⟩⟩
      rw [hsc] at ec
      refine ⟨sz 3 (by decide), fun l nl => ?_⟩
      have sl := same_upd (o := .lst [V.str "a", .str "(", .str "7"]) nl
      have hv3 : [V.str "a", .str "(", .str "7"] = vl [[97], [40], [55]] := by
        have e1 : (Str.ofString "a") = S [97] := cp_inj (by decide +kernel)
        have e2 : (Str.ofString "(") = S [40] := cp_inj (by decide +kernel)
        have e3 : (Str.ofString "7") = S [55] := cp_inj (by decide +kernel)
        rw [e1, e2, e3]
        rfl
      have hasc : ∀ t ∈ ([[97], [40], [55]] : List L), Asc t := fun t ht c hc => by
        simp only [List.mem_cons, List.not_mem_nil, or_false] at ht
        rcases ht with rfl | rfl | rfl <;> (rw [List.mem_singleton.mp hc]; decide)
      have el : (upd H3 l (.lst [V.str "a", .str "(", .str "7"])) l = some (.lst (vl [[97], [40], [55]])) := by rw [upd_same, hv3]
      have s24 := s3.trans sl
      have ec4 := sl _ _ ec
      generalize upd H3 l (.lst [V.str "a", .str "(", .str "7"]) = H4 at el s24 ec4 ⊢
      refine ⟨.list (([[97], [40], [55]] : List L).map dS), .list (([[97], [40], [55]] : List L).map dS), .lst (SqL.of ec4) (dS_all _), .lst (SqL.of el) (dS_all _), shaped_texts _ hasc, shaped_texts _ hasc, _, rfl, ?_⟩
      rw [eqv_self ([[97], [40], [55]] : List L)]
      refine iteF ?_
      have hv2 : [V.str "a", .str "7"] = vl [[97], [55]] := by
        have e1 : (Str.ofString "a") = S [97] := cp_inj (by decide +kernel)
        have e3 : (Str.ofString "7") = S [55] := cp_inj (by decide +kernel)
        rw [e1, e3]
        rfl
      have htk : ∀ t ∈ ([[97], [55]] : List L), isTok t = true := by decide +kernel
      have txT : ∀ {p : Addr} {H6 : Hp}, H6 p = some (.lst (vl [[97], [55]])) → TxV K H6 (.ref p) true := by
        intro p H6 e
        have := vl_text (K := K) e (by decide) fun t h => by have := (Ln.tok_of (htk t h)).2; omega
        rwa [List.all_eq_true.mpr htk] at this
      refine ⟨sz 2 (by decide), fun m1 nm1 => ?_⟩
      have s5 := same_upd (o := .lst [V.str "a", .str "7"]) nm1
      have e5 : (upd H4 m1 (.lst [V.str "a", .str "7"])) m1 = some (.lst (vl [[97], [55]])) := by rw [upd_same, hv2]
      have s25 := s24.trans s5
      generalize upd H4 m1 (.lst [V.str "a", .str "7"]) = H5 at e5 s25 ⊢
      refine ⟨.ref m1, true, rfl, txT e5, fun _ a1 ts1 w1 w2 _ _ H6 s6 => ?_, fun z => Bool.noConfusion z⟩
      obtain rfl : ts1 = [[97], [55]] := by
        cases w1
        rw [w2] at e5
        exact vl_inj (HO.lst.inj (Option.some.inj e5))
      refine ⟨rfl, _, rfl, ?_⟩
      rw [show (!decide (V.str (S (jn [[97], [55]])) = V.str (Str.ofString "a 7"))) = false from by decide +kernel]
      refine iteF ?_
      refine ⟨sz 2 (by decide), fun m2 nm2 => ?_⟩
      have s7 := same_upd (o := .lst [V.str "a", .str "7"]) nm2
      have e7 : (upd H6 m2 (.lst [V.str "a", .str "7"])) m2 = some (.lst (vl [[97], [55]])) := by rw [upd_same, hv2]
      have s27 := (s25.trans s6).trans s7
      generalize upd H6 m2 (.lst [V.str "a", .str "7"]) = H7 at e7 s27 ⊢
      refine ⟨.ref m2, true, rfl, txT e7, fun _ a2 ts2 w3 w4 _ _ H8 s8 => ?_, fun z => Bool.noConfusion z⟩
      obtain rfl : ts2 = [[97], [55]] := by
        cases w3
        rw [w4] at e7
        exact vl_inj (HO.lst.inj (Option.some.inj e7))
      refine ⟨rfl, false, by decide +kernel, iteF ?_⟩
      have s28 := s27.trans s8
      exact ⟨.ref R2, rfl, R2, ws2, rfl, s28 _ _ eR2, fun v hv => (hR2 v hv).same s28, fun H9 _ => q H9⟩
end
end K2

set_option Elab.async false
set_option linter.all false
set_option maxRecDepth 100000
set_option maxHeartbeats 8000000
/-! k03: from the top to the law; what the top has left -/
namespace K2
open PySem PySem.Spec PyProof.Rows L2 EL LW ND
open Ln (L isTok scan jn)
open PySem.EV (ErrC ErrI iA iB iS)
open PySem.W (nsIn findIn keepIn typeIn codeIn fnOf excIn kitOne isFn clsIn subIn mroIn kitMeta)
/-! ### a call of the law's def where nothing is being shown -/
section
variable {P : Program} {w : World} {K : PySem.W.Frag} {mg mb : Str → Option Value} {k : Nat} {fa a : Addr} {fd : FuncData} {x : Str} {sp : Sp} {s : Shared} {vs : List Value}
/-- what the law's call must come to -/
abbrev Told (s : Shared) : Result → Shared → Prop := fun r s' => r = .ok (.ret (.bool true)) ∧ OldK s.heap s'.heap ∧ s'.os = s.os ∧ AllBare s'.gens
/-- the world as the top left it, seen over a base in which what H tracks is hidden -/
structure Stage (K : PySem.W.Frag) (mg : Str → Option Value) (s : Shared) : Prop where
  kin : K.In s.heap
  ns : s.heap.Ns mainGlobals mg
  bs : ∃ mb, s.heap.Ns builtinsNs mb ∧ ∀ x : Str, x ≠ "__name__" → mb x = bootBuiltins x
  lim : s.heap.NoLimit
  gens : s.gens = #[]
theorem told_at (S : Stage K mg s) (ha : s.heap.get? a = some { cls := .type "list", data := .seq vs.toArray }) (hr : Room k callerA)
    (F : ∀ base : Heap, K.In base → base.Ns mainGlobals mg → FnOk P w K mg base CX0 k fa fd [x] sp) (hbind : ∀ (s : Shared) (u : Value), BindsTo s fd ⟨[u], []⟩ [(x, u)])
    {H : Hp} (one : ∀ b, b ≠ a → H b = none) (frozen : H a = none ∨ ∃ o xs, H a = some (.frz o (.lst xs))) (hok : HOk P w H s.heap) (hK : H a ≠ none → K.lookup a = none)
    (hsp : sp [.ref a] H (fun v _ => v = .bl true) fun _ _ _ => False) : codeAny (model P w) callerA (.call (.ref fa) ⟨[.ref a], []⟩) (Told s) s := by
  have out : ∀ {b : Addr}, H b ≠ none → b = a := fun {b} h => by
    rcases Nat.decEq b a with n | e
    · exact absurd (one b n) h
    · exact e
  have seen : ∀ {b : Addr} {o : Obj}, s.heap.get? b = some o → H b = none → (hidT s.heap H).get? b = some o := fun e n => hidT_get e n
  have dictsSeen : ∀ {b : Addr} {m : Str → Option Value}, s.heap.Ns b m → (hidT s.heap H).Ns b m := by
    rintro b m ⟨o, es, ep, e, d, r⟩
    refine ⟨o, es, ep, seen e ?_, d, r⟩
    cases q : H b with
    | none => rfl
    | some u =>
      cases out (b := b) (by rw [q]; simp)
      rw [ha] at e
      cases e
      cases (show Data.seq vs.toArray _ = Data.dict es ep from d)
  have kin : K.In (hidT s.heap H) := by
    intro b o e
    refine seen (S.kin b o e) ?_
    cases q : H b with
    | none => rfl
    | some u =>
      cases out (b := b) (by rw [q]; simp)
      rw [hK (by rw [q]; simp)] at e
      cases e
  obtain ⟨mb, b1, b2⟩ := S.bs
  obtain ⟨mc, l1, l2⟩ := S.lim
  have e0 : Env0 P w K mg (hidT s.heap H) callerA [] s H :=
    ⟨rfl, ⟨kin, dictsSeen S.ns, ⟨mb, dictsSeen b1, b2⟩, ⟨mc, dictsSeen l1, l2⟩⟩, fun b o e => of_hidT e, Nat.le_of_eq (hidT_size _ _), trivial, fun b hb => absurd (show b ∈ ([] : List Addr) from hb) (by simp), hok, .of_eq S.gens⟩
  refine codeAny_mono ((F _ kin (dictsSeen S.ns)).run callerA [] s H ⟨[.ref a], []⟩ [.ref a] [.ref a] _ _ hr e0 (hbind s (.ref a)) (.cons rfl .nil) hsp) fun r s' h => ?_
  match r, h with
  | .error e, h => exact False.elim h
  | .ok .next, h => exact False.elim h
  | .ok .brk, h => exact False.elim h
  | .ok .cont, h => exact False.elim h
  | .ok (.ret u), ⟨v, H', os, bare, un, hok', r', q⟩ =>
    obtain rfl : v = .bl true := q
    obtain rfl : u = Value.bool true := r'
    refine ⟨rfl, OldK.of_keep fun b o e => ?_, os, bare⟩
    cases q : H b with
    | none => exact un.keep b o e q (by intro z; exact absurd (show b ∈ ([] : List Addr) from z) (by simp)) (by simp)
    | some u =>
      cases out (b := b) (by rw [q]; simp)
      rcases frozen with z | ⟨ob, xs, z⟩
      · rw [q] at z
        cases z
      · obtain ⟨e1, _⟩ := hok _ _ z
        obtain ⟨e2, _⟩ := hok' _ _ (un.frzs _ ob _ z)
        rw [e] at e1
        cases e1
        exact e2
theorem told {ns : List Int} (S : Stage K mg s) (ha : s.heap.get? a = some { cls := .type "list", data := .seq vs.toArray }) (hi : IntsAre vs ns) (hl : ns.length ≤ sizeLine) (hr : Room k callerA)
    (F : ∀ base : Heap, K.In base → base.Ns mainGlobals mg → FnOk P w K mg base CX0 k fa fd [x] sp) (hbind : ∀ (s : Shared) (u : Value), BindsTo s fd ⟨[u], []⟩ [(x, u)])
    (hsp : ∀ H : Hp, SqL K H a (ns.map V.int) → sp [.ref a] H (fun v _ => v = .bl true) fun _ _ _ => False) : codeAny (model P w) callerA (.call (.ref fa) ⟨[.ref a], []⟩) (Told s) s := by
  have rv := vals_ints hi
  have lz : vs.length ≤ sizeLine := by rw [hi.length]; exact hl
  cases hk : K.lookup a with
  | some o =>
    have e := S.kin a o hk
    rw [ha] at e
    cases e
    refine told_at S ha hr F hbind (H := fun _ => none) (fun _ _ => rfl) (.inl rfl) (fun b u z => nomatch (show (none : Option HO) = some u from z)) (fun z => absurd rfl z) (hsp _ (.inr ⟨_, vs.toArray, _, hk, rfl, rfl, rfl, ?_, ?_⟩))
    · rw [List.size_toArray]
      exact lz
    · simpa using rv
  | none =>
    have g : upd (fun _ => none) a (HO.frz { cls := .type "list", data := .seq vs.toArray } (.lst (ns.map V.int))) a = some (.frz { cls := .type "list", data := .seq vs.toArray } (.lst (ns.map V.int))) := upd_same
    refine told_at S ha hr F hbind (H := upd (fun _ => none) a (.frz { cls := .type "list", data := .seq vs.toArray } (.lst (ns.map V.int)))) (fun b n => by rw [upd_ne n]) (.inr ⟨_, _, g⟩) (fun b u z => ?_) (fun _ => hk) (hsp _ (.inl (.inr ⟨_, g⟩)))
    by_cases hb : b = a
    · subst hb
      rw [g] at z
      cases z
      exact ⟨ha, by rw [List.length_map]; exact hl, vs, _, rv, ha⟩
    · rw [upd_ne hb] at z
      cases z
end
/-- the goal that the head leaves -/
theorem walk {l : PySem.W.OpenLaw} {k : Nat} {q : Program} {loose : List Str} {XP : (Str → Option Value) → Heap → Prop} {YP : World → Heap → Prop} {d : DefRec} {K : Params → PySem.W.Frag} (hn : l.most = some 63) (hdf : d.params.defaults = []) (hr : Room k callerA)
    (hY : ∀ (w : World) (h : Heap), YP w h → (K w.params).In h)
    (F : ∀ (w : World) (mg : Str → Option Value) (fa : Addr) (h : Heap), (K w.params).In h → h.Ns mainGlobals mg → mg d.name = some (.ref fa) →
      ∃ fd : FuncData, (∀ (s : Shared) (u : Value), BindsTo s fd ⟨[u], []⟩ [("_law_script", u)]) ∧ ∀ base : Heap, (K w.params).In base → base.Ns mainGlobals mg → FnOk l.prog w (K w.params) mg base CX0 k fa fd ["_law_script"] (spLaw3 (K w.params))) :
    PySem.W.WalkO q loose XP YP l.row.toRowW d [] (fun f vs => PySem.call f vs) := by
  refine Att.attach_call hn hdf fun w s₀ s₁ mg mb fa o pm cd doc a vs ns G Y _ _ _ hmg hobj hints hlen hg => ?_
  have KX := hY w _ Y
  obtain ⟨fd, hb, hF⟩ := F w mg fa _ KX G.T.g hmg
  exact told ⟨KX, G.T.g, ⟨mb, G.T.b, G.T.builtins⟩, G.T.nolimit, hg⟩ hobj hints (Nat.le_trans hlen (by decide)) hr hF hb fun H hS => ⟨a, ns, rfl, hS, hlen, fun _ => rfl⟩

/-! ### classes of the top -/
structure ClsX (K : PySem.W.Frag) (T : Addr) (x : Str) (C I : Addr) : Prop where
  at_ : nsIn K mainGlobals x = some (some (.ref C))
  z : ErrC K C T
  i : ErrI K C I
structure Bar (K : PySem.W.Frag) (tail : List Value) (x : Str) (C : Addr) : Prop where
  at_ : nsIn K mainGlobals x = some (some (.ref C))
  cat : CatC K C tail
  ex : excIn K C HandSPX.veTail "ValueError.__new__" = true
  kp : keepIn K (.ref C) = true
section
variable {K : PySem.W.Frag} {T C I : Addr} {x : Str}
theorem cls_mk {nm q : Str} {N : Addr} {bs : List Value} {sn : List Str} {sub : List Value} {ab : Bool} {col : Option Bool} {dd : Option Addr} {k0 k1 k2 k3 k5 : Option Value}
    {oc doc pm kV cdv ct : Value} {od an : Option Addr} {osl : Array (Option Value)} {qn : Str} {D : Addr} {oD : Obj} {nD : Nat} {p1 p2 p3 q1 q2 q3 q4 : Pos}
    (a : nsIn K mainGlobals x = some (some (.ref C))) (l : K.lookup C = some (excClassObj nm q C N bs (.ref T :: HandSPX.veTail) true sn sub ab col dd k0 k1 k2 k3 k5 "ValueError.__new__"))
    (sa : findIn K (.ref C) "__setattr__" = some (some (.builtin "object.__setattr__"))) (ga : findIn K (.ref C) "__getattribute__" = some (some (.builtin "BaseException.__getattribute__")))
    (gg : findIn K (.ref C) "__getattr__" = some none) (nv : findIn K (.ref C) "value" = some none) (ca : findIn K (.ref C) "__class__" = some (some (.builtin "object.__class__"))) (kC : keepIn K (.ref C) = true)
    (iC : findIn K (.ref C) "__init__" = some (some (.ref I))) (tC : typeIn K (.ref I) = some (.type "function"))
    (lI : K.lookup I = some ⟨oc, od, .func (fnOf "__init__" qn (iA p1 p2 p3) (iB q1 q2 q3 q4) iS (.ref D) kV doc pm an cdv ct), osl⟩) (cI : codeIn K cdv qn = true) (lD : K.lookup D = some oD) (dD : oD.data = .seq #[.none] nD) : ClsX K T x C I :=
  ⟨a, ⟨⟨_, _, _, _, _, _, _, _, _, _, _, _, _, _, l⟩, sa, ga, gg, nv, ca, kC⟩, iC, tC, _, _, _, _, _, _, _, _, _, _, _, _, _, _, _, _, _, _, _, _, lI, cI, lD, dD⟩
theorem bar_mk {tail : List Value} {nm q : Str} {N : Addr} {bs : List Value} {sn : List Str} {sub : List Value} {ab : Bool} {col : Option Bool} {dd : Option Addr} {k0 k1 k2 k3 k5 : Option Value}
    (a : nsIn K mainGlobals x = some (some (.ref C))) (l : K.lookup C = some (excClassObj nm q C N bs tail true sn sub ab col dd k0 k1 k2 k3 k5 "ValueError.__new__"))
    (ga : findIn K (.ref C) "__getattribute__" = some (some (.builtin "BaseException.__getattribute__"))) (gg : findIn K (.ref C) "__getattr__" = some none) (ca : findIn K (.ref C) "__class__" = some (some (.builtin "object.__class__")))
    (ex : excIn K C HandSPX.veTail "ValueError.__new__" = true) (kp : keepIn K (.ref C) = true) (bm : HandSPX.refsVE tail = true) : Bar K tail x C :=
  ⟨a, ⟨⟨_, _, _, _, _, _, _, _, _, _, _, _, _, _, l⟩, ga, gg, ca, bm⟩, ex, kp⟩
end

/-! ### defs of the top -/
structure Fn (K : PySem.W.Frag) (x : Str) (st : Stmt) (f : Addr) (fd : FuncData) : Prop where
  at_ : nsIn K mainGlobals x = some (some (.ref f))
  F : Fun K x x st f fd
theorem fn_mk {K : PySem.W.Frag} {x : Str} {st : Stmt} {f : Addr} {oc : Value} {od an : Option Addr} {osl : Array (Option Value)} {kV doc pm cdv ct : Value} (a : nsIn K mainGlobals x = some (some (.ref f)))
    (l : K.lookup f = some ⟨oc, od, .func (fnOf x x (defArgs st) (defBody st) (defScope st) .none kV doc pm an cdv ct), osl⟩) (c : codeIn K cdv x = true) (k : keepIn K (.ref f) = true) : Fn K x st f (fnOf x x (defArgs st) (defBody st) (defScope st) .none kV doc pm an cdv ct) :=
  ⟨a, fun_mk l c k⟩


theorem gram_mk {K : PySem.W.Frag} {G : Addr} (c : L2.Cls K G) (n1 : findIn K (.ref G) "levels" = some none) (n2 : findIn K (.ref G) "follows" = some none) (n3 : findIn K (.ref G) "middles" = some none) (n4 : findIn K (.ref G) "hard_words" = some none) (n5 : findIn K (.ref G) "told" = some none) (n6 : findIn K (.ref G) "answers" = some none) : GramC K G := ⟨c, n1, n2, n3, n4, n5, n6⟩
theorem edit_mk {K : PySem.W.Frag} {G : Addr} (c : L2.Cls K G) (n1 : findIn K (.ref G) "_forms" = some none) (n2 : findIn K (.ref G) "_hard" = some none) (n3 : findIn K (.ref G) "grammar" = some none) : EditC K G := ⟨c, n1, n2, n3⟩
theorem kit_self {K : PySem.W.Frag} (D : Addr) : kitOne K (.ref D) (.ref D) = some true := by
  unfold PySem.W.kitOne
  rw [if_pos (by simp)]
theorem kit_ownT {K : PySem.W.Frag} {D : Addr} {T : String} {b : Bool} (hm : kitMeta T = true) (h : mroIn K D (.type T) = some b) : kitOne K (.ref D) (.type T) = some b := by
  unfold PySem.W.kitOne
  rw [if_neg (by simp)]
  show (if kitMeta T = true then subIn K (.ref D) (.type T) else none) = some b
  rw [if_pos hm]
  exact h
theorem kit_Town {K : PySem.W.Frag} {D : Addr} {T : String} {b : Bool} {cd : ClassData} (h1 : clsIn K D = some cd) (h2 : typeIn K (.ref D) = some (.type "type")) (h : subIn K (.type T) (.ref D) = some b) : kitOne K (.type T) (.ref D) = some b := by
  unfold PySem.W.kitOne
  rw [if_neg (by simp)]
  show (if ((clsIn K D).isSome && typeIn K (.ref D) == some (.type "type")) = true then subIn K (.type T) (.ref D) else none) = some b
  rw [h1, h2, if_pos (by simp)]
  exact h

theorem all_mk {l : PySem.W.OpenLaw} {w : World} {K : PySem.W.Frag} {h : Heap} {mg : Str → Option Value} {fa T CT CX CE CC IT IX IE IC G D aB : Addr} (X : K.In h) (G0 : h.Ns mainGlobals mg) (hfa : mg "law" = some (.ref fa))
    (hT : Bar K HandSPX.veTail "TongueError" T) (hCT : ClsX K T "InvalidToken" CT IT) (hCX : ClsX K T "InvalidText" CX IX) (hCE : ClsX K T "InvalidEditions" CE IE) (hCC : ClsX K T "InvalidCount" CC IC)
    (nt : CT ≠ T) (nx : CX ≠ T) (ne : CE ≠ T) (nc : CC ≠ T) (tx : CT ≠ CX) (te : CT ≠ CE) (tc : CT ≠ CC) (xe : CX ≠ CE) (xc : CX ≠ CC) (ec : CE ≠ CC) (dsc : DscC K)
    {tL : Tok} (cL : nsIn K mainGlobals "LETTERS" = some (some (.str letS tL))) {tF : Tok} (cF : nsIn K mainGlobals "FIGURES" = some (some (.str figS tF))) {tS : Tok} (cS : nsIn K mainGlobals "SIGNS" = some (some (.str sgnS tS))) {tQ : Tok} (cQ : nsIn K mainGlobals "QUOTE" = some (some (.str "'" tQ))) {tH : Tok} (cH : nsIn K mainGlobals "HOLE" = some (some (.str hole tH)))
    {tM : Tok} (cM : nsIn K mainGlobals "MOST_SIGNS" = some (some (.int 8 tM))) {tG : Tok} (cG : nsIn K mainGlobals "GREATEST_LEVEL" = some (some (.int 9 tG))) {tI : Tok} (cI : nsIn K mainGlobals "MOST_ITEMS" = some (some (.int 7 tI))) {tO : Tok} (cO : nsIn K mainGlobals "MOST_HOLES" = some (some (.int 3 tO))) {tW : Tok} (cW : nsIn K mainGlobals "MOST_WORDS" = some (some (.int 1000 tW)))
    (cB : nsIn K mainGlobals "BRACKETS" = some (some (.ref aB))) {oB : Obj} {its : Array Value} {nB : Nat} {u1 u2 : Tok} (lB : K.lookup aB = some oB) (tB : oB.cls = .type "tuple") (dB : oB.data = .seq its nB) (iB : its = #[.str "(" u1, .str ")" u2])
    (cGr : nsIn K mainGlobals "Grammar" = some (some (.ref G))) (cEd : nsIn K mainGlobals "Edition" = some (some (.ref D)))
    {aGI aEI aGF aEQ : Addr}
    (ZG : GramC K G) (MG : Mk K G aGI) (hX : Meth K G "fixed" aGF) (ZD : EditC K D) (MD : Mk K D aEI) (ZK : EdK K D) (ZN : NoEd K D) (hs : findIn K (.ref D) "__eq__" = some (some (.ref aEQ))) (hfn : isFn K (.ref aEQ) = true)
    {dGI : FuncData} (fGI : Fun K "__init__" "Grammar.__init__" sGram aGI dGI)
    {dEI : FuncData} (fEI : Fun K "__init__" "Edition.__init__" sEdit aEI dEI)
    {dGF : FuncData} (fGF : Fun K "fixed" "Grammar.fixed" sFixed aGF dGF)
    {dEQ : FuncData} (fEQ : Fun K "__eq__" "Edition.__eq__" sEdEq aEQ dEQ)
    {a0 : Addr} {d0 : FuncData} (f0 : Fn K "is_run" sRun a0 d0)
    {a1 : Addr} {d1 : FuncData} (f1 : Fn K "is_word" sIsWord a1 d1)
    {a2 : Addr} {d2 : FuncData} (f2 : Fn K "is_sign" sIsSign a2 d2)
    {a3 : Addr} {d3 : FuncData} (f3 : Fn K "is_number" sIsNum a3 d3)
    {a4 : Addr} {d4 : FuncData} (f4 : Fn K "is_quoted" sIsQuoted a4 d4)
    {a5 : Addr} {d5 : FuncData} (f5 : Fn K "is_token" sIsToken a5 d5)
    {a6 : Addr} {d6 : FuncData} (f6 : Fn K "is_text" sIsText a6 d6)
    {a7 : Addr} {d7 : FuncData} (f7 : Fn K "require_text" sReqText a7 d7)
    {a8 : Addr} {d8 : FuncData} (f8 : Fn K "run_end" sRunEnd a8 d8)
    {a9 : Addr} {d9 : FuncData} (f9 : Fn K "token_end" sTokEnd a9 d9)
    {a10 : Addr} {d10 : FuncData} (f10 : Fn K "cut" sCut a10 d10)
    {a11 : Addr} {d11 : FuncData} (f11 : Fn K "line_of" sLineOf a11 d11)
    {a12 : Addr} {d12 : FuncData} (f12 : Fn K "run_together" sTog a12 d12)
    {a13 : Addr} {d13 : FuncData} (f13 : Fn K "tight_line" sTight a13 d13)
    {a14 : Addr} {d14 : FuncData} (f14 : Fn K "is_fixed" sIsFixed a14 d14)
    {a15 : Addr} {d15 : FuncData} (f15 : Fn K "is_count" sIsCount a15 d15)
    {a16 : Addr} {d16 : FuncData} (f16 : Fn K "is_level" sIsLevel a16 d16)
    {a17 : Addr} {d17 : FuncData} (f17 : Fn K "is_pattern" sIsPat a17 d17)
    {a18 : Addr} {d18 : FuncData} (f18 : Fn K "is_well_formed" sWell a18 d18)
    {a19 : Addr} {d19 : FuncData} (f19 : Fn K "is_tail" sIsTail a19 d19)
    {a20 : Addr} {d20 : FuncData} (f20 : Fn K "own_key" sOwnKey a20 d20)
    {a21 : Addr} {d21 : FuncData} (f21 : Fn K "hole_key" sHoleKey a21 d21)
    {a22 : Addr} {d22 : FuncData} (f22 : Fn K "keys_of" sKeysOf a22 d22)
    {a23 : Addr} {d23 : FuncData} (f23 : Fn K "key_levels" sKeyLev a23 d23)
    {a24 : Addr} {d24 : FuncData} (f24 : Fn K "followers" sFoll a24 d24)
    {a25 : Addr} {d25 : FuncData} (f25 : Fn K "first_tokens" sFirsts a25 d25)
    {a26 : Addr} {d26 : FuncData} (f26 : Fn K "tail_tokens" sTails a26 d26)
    {a27 : Addr} {d27 : FuncData} (f27 : Fn K "middle_tokens" sMids a27 d27)
    {a28 : Addr} {d28 : FuncData} (f28 : Fn K "doubled" sDoubled a28 d28)
    {a29 : Addr} {d29 : FuncData} (f29 : Fn K "unlike_keys" sUnlike a29 d29)
    {a30 : Addr} {d30 : FuncData} (f30 : Fn K "parted_beginnings" sParted a30 d30)
    {a31 : Addr} {d31 : FuncData} (f31 : Fn K "tails_in_the_middle" sTailMid a31 d31)
    {a32 : Addr} {d32 : FuncData} (f32 : Fn K "hard_nowhere" sHardNo a32 d32)
    {a33 : Addr} {d33 : FuncData} (f33 : Fn K "soft_alone" sSoftAl a33 d33)
    {a34 : Addr} {d34 : FuncData} (f34 : Fn K "least_clash" sLeast a34 d34)
    {a35 : Addr} {d35 : FuncData} (f35 : Fn K "what_follows" sWhat a35 d35)
    {a36 : Addr} {d36 : FuncData} (f36 : Fn K "is_form" sIsForm a36 d36)
    {a37 : Addr} {d37 : FuncData} (f37 : Fn K "require_forms" sReqForms a37 d37)
    {a38 : Addr} {d38 : FuncData} (f38 : Fn K "are_words" sAreWords a38 d38)
    {a39 : Addr} {d39 : FuncData} (f39 : Fn K "require_words" sReqWords a39 d39)
    {a40 : Addr} {d40 : FuncData} (f40 : Fn K "first_clash" sFirstCl a40 d40)
    {a41 : Addr} {d41 : FuncData} (f41 : Fn K "require_token" sReqTok a41 d41)
    {a42 : Addr} {d42 : FuncData} (f42 : Fn K "kind" sKind a42 d42)
    {a43 : Addr} {d43 : FuncData} (f43 : Fn K "unmarked" sUnmarked a43 d43)
    {a44 : Addr} {d44 : FuncData} (f44 : Fn K "word_at" sWordAt a44 d44)
    {a45 : Addr} {d45 : FuncData} (f45 : Fn K "require_editions" sReqEd a45 d45)
    {a46 : Addr} {d46 : FuncData} (f46 : Fn K "free_words" sFree a46 d46)
    {a47 : Addr} {d47 : FuncData} (f47 : Fn K "_law_purse" sPurse a47 d47)
    {a48 : Addr} {d48 : FuncData} (f48 : Fn K "_law_mixed" sMixed a48 d48)
    {a49 : Addr} {d49 : FuncData} (f49 : Fn K "_law_draw" sDraw a49 d49)
    {a50 : Addr} {d50 : FuncData} (f50 : Fn K "_law_purses" sPurses a50 d50)
    {a51 : Addr} {d51 : FuncData} (f51 : Fn K "_law_one_of" sOneOf a51 d51)
    {a52 : Addr} {d52 : FuncData} (f52 : Fn K "_law_shuffled" sShuf a52 d52)
    {a53 : Addr} {d53 : FuncData} (f53 : Fn K "_law_word" sWord a53 d53)
    {a54 : Addr} {d54 : FuncData} (f54 : Fn K "_law_token" sTokD3 a54 d54)
    {a55 : Addr} {d55 : FuncData} (f55 : Fn K "_law_count_up" sCount a55 d55)
    {a56 : Addr} {d56 : FuncData} (f56 : Fn K "_law_exact" sExact a56 d56)
    {a57 : Addr} {d57 : FuncData} (f57 : Fn K "_law_called" sCalled a57 d57)
    {a58 : Addr} {d58 : FuncData} (f58 : Fn K "_law_very" sVery3 a58 d58)
    {a59 : Addr} {d59 : FuncData} (f59 : Fn K "_law_based" sBased a59 d59)
    {a60 : Addr} {d60 : FuncData} (f60 : Fn K "_law_edges" sEdges a60 d60)
    {a61 : Addr} {d61 : FuncData} (f61 : Fn K "_law_kinds_right" sKinds a61 d61)
    {a62 : Addr} {d62 : FuncData} (f62 : Fn K "_law_unmarked_right" sUnmR a62 d62)
    {a63 : Addr} {d63 : FuncData} (f63 : Fn K "_law_short_edition" sShort a63 d63)
    {a64 : Addr} {d64 : FuncData} (f64 : Fn K "_law_free_refused" sRefu a64 d64)
    {a65 : Addr} {d65 : FuncData} (f65 : Fn K "_law_free_right" sFreeR a65 d65)
    {a66 : Addr} {d66 : FuncData} (f66 : Fn K "law" sLaw3 a66 d66)
    (zsum : nsIn K mainGlobals "sum" = some none)
    (zint : nsIn K mainGlobals "int" = some none)
    (zmax : nsIn K mainGlobals "max" = some none)
    (zmin : nsIn K mainGlobals "min" = some none)
    (zlen : nsIn K mainGlobals "len" = some none)
    (zrange : nsIn K mainGlobals "range" = some none)
    (zisinstance : nsIn K mainGlobals "isinstance" = some none)
    (zstr : nsIn K mainGlobals "str" = some none)
    (zlist : nsIn K mainGlobals "list" = some none)
    (ztuple : nsIn K mainGlobals "tuple" = some none)
    (zdict : nsIn K mainGlobals "dict" = some none)
    (zbool : nsIn K mainGlobals "bool" = some none)
    (zall : nsIn K mainGlobals "all" = some none)
    (zany : nsIn K mainGlobals "any" = some none)
    (zzip : nsIn K mainGlobals "zip" = some none)
    (zenumerate : nsIn K mainGlobals "enumerate" = some none)
    (zset : nsIn K mainGlobals "set" = some none)
    (zsorted : nsIn K mainGlobals "sorted" = some none)
    (zreversed : nsIn K mainGlobals "reversed" = some none)
    (zValueError : nsIn K mainGlobals "ValueError" = some none)
    : ∃ fd : FuncData, (∀ (s : Shared) (u : Value), BindsTo s fd ⟨[u], []⟩ [("_law_script", u)]) ∧ ∀ base : Heap, K.In base → base.Ns mainGlobals mg → FnOk l.prog w K mg base CX0 12 fa fd ["_law_script"] (spLaw3 K) := by
  have e := hfa.symm.trans (PySem.W.mg_of X G0 f66.at_)
  cases e
  have mL := PySem.W.mg_of X G0 cL
  have mF := PySem.W.mg_of X G0 cF
  have mS := PySem.W.mg_of X G0 cS
  have mQ := PySem.W.mg_of X G0 cQ
  have mH := PySem.W.mg_of X G0 cH
  have mM := PySem.W.mg_of X G0 cM
  have mG := PySem.W.mg_of X G0 cG
  have mI := PySem.W.mg_of X G0 cI
  have mO := PySem.W.mg_of X G0 cO
  have mW := PySem.W.mg_of X G0 cW
  have mB := PySem.W.mg_of X G0 cB
  have mGr := PySem.W.mg_of X G0 cGr
  have mEd := PySem.W.mg_of X G0 cEd
  have mCT := PySem.W.mg_of X G0 hCT.at_
  have mCX := PySem.W.mg_of X G0 hCX.at_
  have mCE := PySem.W.mg_of X G0 hCE.at_
  have mCC := PySem.W.mg_of X G0 hCC.at_
  have mT := PySem.W.mg_of X G0 hT.at_
  have hB : ∀ H : Hp, SqT K H aB [.str "(", .str ")"] := fun H => .inr ⟨oB, its, nB, lB, tB, dB, by subst iB; exact sz 2 (by decide), by subst iB; exact .cons ⟨_, rfl⟩ (.cons ⟨_, rfl⟩ .nil)⟩
  have nsum := PySem.W.mg_none_of X G0 zsum
  have nint := PySem.W.mg_none_of X G0 zint
  have nmax := PySem.W.mg_none_of X G0 zmax
  have nmin := PySem.W.mg_none_of X G0 zmin
  have nlen := PySem.W.mg_none_of X G0 zlen
  have nrange := PySem.W.mg_none_of X G0 zrange
  have nisinstance := PySem.W.mg_none_of X G0 zisinstance
  have nstr := PySem.W.mg_none_of X G0 zstr
  have nlist := PySem.W.mg_none_of X G0 zlist
  have ntuple := PySem.W.mg_none_of X G0 ztuple
  have ndict := PySem.W.mg_none_of X G0 zdict
  have nbool := PySem.W.mg_none_of X G0 zbool
  have nall := PySem.W.mg_none_of X G0 zall
  have nany := PySem.W.mg_none_of X G0 zany
  have nzip := PySem.W.mg_none_of X G0 zzip
  have nenumerate := PySem.W.mg_none_of X G0 zenumerate
  have nset := PySem.W.mg_none_of X G0 zset
  have nsorted := PySem.W.mg_none_of X G0 zsorted
  have nreversed := PySem.W.mg_none_of X G0 zreversed
  have nValueError := PySem.W.mg_none_of X G0 zValueError
  have b0 := f0.F.binds (ps := ["value"]) fun _ _ _ _ _ _ us hl => match us, hl with | [_], _ => rfl
  have g0 := PySem.W.mg_of X G0 f0.at_
  have b1 := f1.F.binds (ps := ["value"]) fun _ _ _ _ _ _ us hl => match us, hl with | [_], _ => rfl
  have g1 := PySem.W.mg_of X G0 f1.at_
  have b2 := f2.F.binds (ps := ["value"]) fun _ _ _ _ _ _ us hl => match us, hl with | [_], _ => rfl
  have g2 := PySem.W.mg_of X G0 f2.at_
  have b3 := f3.F.binds (ps := ["value"]) fun _ _ _ _ _ _ us hl => match us, hl with | [_], _ => rfl
  have g3 := PySem.W.mg_of X G0 f3.at_
  have b4 := f4.F.binds (ps := ["value"]) fun _ _ _ _ _ _ us hl => match us, hl with | [_], _ => rfl
  have g4 := PySem.W.mg_of X G0 f4.at_
  have b5 := f5.F.binds (ps := ["value"]) fun _ _ _ _ _ _ us hl => match us, hl with | [_], _ => rfl
  have g5 := PySem.W.mg_of X G0 f5.at_
  have b6 := f6.F.binds (ps := ["value"]) fun _ _ _ _ _ _ us hl => match us, hl with | [_], _ => rfl
  have g6 := PySem.W.mg_of X G0 f6.at_
  have b7 := f7.F.binds (ps := ["text"]) fun _ _ _ _ _ _ us hl => match us, hl with | [_], _ => rfl
  have g7 := PySem.W.mg_of X G0 f7.at_
  have b8 := f8.F.binds (ps := ["line", "begin"]) fun _ _ _ _ _ _ us hl => match us, hl with | [_, _], _ => rfl
  have g8 := PySem.W.mg_of X G0 f8.at_
  have b9 := f9.F.binds (ps := ["line", "begin"]) fun _ _ _ _ _ _ us hl => match us, hl with | [_, _], _ => rfl
  have g9 := PySem.W.mg_of X G0 f9.at_
  have b10 := f10.F.binds (ps := ["line"]) fun _ _ _ _ _ _ us hl => match us, hl with | [_], _ => rfl
  have g10 := PySem.W.mg_of X G0 f10.at_
  have b11 := f11.F.binds (ps := ["text"]) fun _ _ _ _ _ _ us hl => match us, hl with | [_], _ => rfl
  have g11 := PySem.W.mg_of X G0 f11.at_
  have b12 := f12.F.binds (ps := ["token", "after"]) fun _ _ _ _ _ _ us hl => match us, hl with | [_, _], _ => rfl
  have g12 := PySem.W.mg_of X G0 f12.at_
  have b13 := f13.F.binds (ps := ["text"]) fun _ _ _ _ _ _ us hl => match us, hl with | [_], _ => rfl
  have g13 := PySem.W.mg_of X G0 f13.at_
  have b14 := f14.F.binds (ps := ["value"]) fun _ _ _ _ _ _ us hl => match us, hl with | [_], _ => rfl
  have g14 := PySem.W.mg_of X G0 f14.at_
  have b15 := f15.F.binds (ps := ["value"]) fun _ _ _ _ _ _ us hl => match us, hl with | [_], _ => rfl
  have g15 := PySem.W.mg_of X G0 f15.at_
  have b16 := f16.F.binds (ps := ["value"]) fun _ _ _ _ _ _ us hl => match us, hl with | [_], _ => rfl
  have g16 := PySem.W.mg_of X G0 f16.at_
  have b17 := f17.F.binds (ps := ["value"]) fun _ _ _ _ _ _ us hl => match us, hl with | [_], _ => rfl
  have g17 := PySem.W.mg_of X G0 f17.at_
  have b18 := f18.F.binds (ps := ["value"]) fun _ _ _ _ _ _ us hl => match us, hl with | [_], _ => rfl
  have g18 := PySem.W.mg_of X G0 f18.at_
  have b19 := f19.F.binds (ps := ["place"]) fun _ _ _ _ _ _ us hl => match us, hl with | [_], _ => rfl
  have g19 := PySem.W.mg_of X G0 f19.at_
  have b20 := f20.F.binds (ps := ["place"]) fun _ _ _ _ _ _ us hl => match us, hl with | [_], _ => rfl
  have g20 := PySem.W.mg_of X G0 f20.at_
  have b21 := f21.F.binds (ps := ["pattern", "at"]) fun _ _ _ _ _ _ us hl => match us, hl with | [_, _], _ => rfl
  have g21 := PySem.W.mg_of X G0 f21.at_
  have b22 := f22.F.binds (ps := ["pattern"]) fun _ _ _ _ _ _ us hl => match us, hl with | [_], _ => rfl
  have g22 := PySem.W.mg_of X G0 f22.at_
  have b23 := f23.F.binds (ps := ["form"]) fun _ _ _ _ _ _ us hl => match us, hl with | [_], _ => rfl
  have g23 := PySem.W.mg_of X G0 f23.at_
  have b24 := f24.F.binds (ps := ["patterns"]) fun _ _ _ _ _ _ us hl => match us, hl with | [_], _ => rfl
  have g24 := PySem.W.mg_of X G0 f24.at_
  have b25 := f25.F.binds (ps := ["patterns"]) fun _ _ _ _ _ _ us hl => match us, hl with | [_], _ => rfl
  have g25 := PySem.W.mg_of X G0 f25.at_
  have b26 := f26.F.binds (ps := ["patterns"]) fun _ _ _ _ _ _ us hl => match us, hl with | [_], _ => rfl
  have g26 := PySem.W.mg_of X G0 f26.at_
  have b27 := f27.F.binds (ps := ["patterns"]) fun _ _ _ _ _ _ us hl => match us, hl with | [_], _ => rfl
  have g27 := PySem.W.mg_of X G0 f27.at_
  have b28 := f28.F.binds (ps := ["patterns"]) fun _ _ _ _ _ _ us hl => match us, hl with | [_], _ => rfl
  have g28 := PySem.W.mg_of X G0 f28.at_
  have b29 := f29.F.binds (ps := ["forms"]) fun _ _ _ _ _ _ us hl => match us, hl with | [_], _ => rfl
  have g29 := PySem.W.mg_of X G0 f29.at_
  have b30 := f30.F.binds (ps := ["patterns"]) fun _ _ _ _ _ _ us hl => match us, hl with | [_], _ => rfl
  have g30 := PySem.W.mg_of X G0 f30.at_
  have b31 := f31.F.binds (ps := ["patterns"]) fun _ _ _ _ _ _ us hl => match us, hl with | [_], _ => rfl
  have g31 := PySem.W.mg_of X G0 f31.at_
  have b32 := f32.F.binds (ps := ["patterns", "hard"]) fun _ _ _ _ _ _ us hl => match us, hl with | [_, _], _ => rfl
  have g32 := PySem.W.mg_of X G0 f32.at_
  have b33 := f33.F.binds (ps := ["patterns", "hard"]) fun _ _ _ _ _ _ us hl => match us, hl with | [_, _], _ => rfl
  have g33 := PySem.W.mg_of X G0 f33.at_
  have b34 := f34.F.binds (ps := ["forms", "hard"]) fun _ _ _ _ _ _ us hl => match us, hl with | [_, _], _ => rfl
  have g34 := PySem.W.mg_of X G0 f34.at_
  have b35 := f35.F.binds (ps := ["place", "items", "levels"]) fun _ _ _ _ _ _ us hl => match us, hl with | [_, _, _], _ => rfl
  have g35 := PySem.W.mg_of X G0 f35.at_
  have b36 := f36.F.binds (ps := ["value"]) fun _ _ _ _ _ _ us hl => match us, hl with | [_], _ => rfl
  have g36 := PySem.W.mg_of X G0 f36.at_
  have b37 := f37.F.binds (ps := ["forms"]) fun _ _ _ _ _ _ us hl => match us, hl with | [_], _ => rfl
  have g37 := PySem.W.mg_of X G0 f37.at_
  have b38 := f38.F.binds (ps := ["value"]) fun _ _ _ _ _ _ us hl => match us, hl with | [_], _ => rfl
  have g38 := PySem.W.mg_of X G0 f38.at_
  have b39 := f39.F.binds (ps := ["words"]) fun _ _ _ _ _ _ us hl => match us, hl with | [_], _ => rfl
  have g39 := PySem.W.mg_of X G0 f39.at_
  have b40 := f40.F.binds (ps := ["forms", "hard"]) fun _ _ _ _ _ _ us hl => match us, hl with | [_, _], _ => rfl
  have g40 := PySem.W.mg_of X G0 f40.at_
  have b41 := f41.F.binds (ps := ["token"]) fun _ _ _ _ _ _ us hl => match us, hl with | [_], _ => rfl
  have g41 := PySem.W.mg_of X G0 f41.at_
  have b42 := f42.F.binds (ps := ["token"]) fun _ _ _ _ _ _ us hl => match us, hl with | [_], _ => rfl
  have g42 := PySem.W.mg_of X G0 f42.at_
  have b43 := f43.F.binds (ps := ["text"]) fun _ _ _ _ _ _ us hl => match us, hl with | [_], _ => rfl
  have g43 := PySem.W.mg_of X G0 f43.at_
  have b44 := f44.F.binds (ps := ["at"]) fun _ _ _ _ _ _ us hl => match us, hl with | [_], _ => rfl
  have g44 := PySem.W.mg_of X G0 f44.at_
  have b45 := f45.F.binds (ps := ["editions"]) fun _ _ _ _ _ _ us hl => match us, hl with | [_], _ => rfl
  have g45 := PySem.W.mg_of X G0 f45.at_
  have b46 := f46.F.binds (ps := ["editions", "many"]) fun _ _ _ _ _ _ us hl => match us, hl with | [_, _], _ => rfl
  have g46 := PySem.W.mg_of X G0 f46.at_
  have b47 := f47.F.binds (ps := ["_law_script", "_law_at"]) fun _ _ _ _ _ _ us hl => match us, hl with | [_, _], _ => rfl
  have g47 := PySem.W.mg_of X G0 f47.at_
  have b48 := f48.F.binds (ps := ["_law_seed", "_law_turn", "_law_at"]) fun _ _ _ _ _ _ us hl => match us, hl with | [_, _, _], _ => rfl
  have g48 := PySem.W.mg_of X G0 f48.at_
  have b49 := f49.F.binds (ps := ["_law_purse_here", "_law_many"]) fun _ _ _ _ _ _ us hl => match us, hl with | [_, _], _ => rfl
  have g49 := PySem.W.mg_of X G0 f49.at_
  have b50 := f50.F.binds (ps := ["_law_script", "_law_few"]) fun _ _ _ _ _ _ us hl => match us, hl with | [_, _], _ => rfl
  have g50 := PySem.W.mg_of X G0 f50.at_
  have b51 := f51.F.binds (ps := ["_law_purse_here", "_law_some"]) fun _ _ _ _ _ _ us hl => match us, hl with | [_, _], _ => rfl
  have g51 := PySem.W.mg_of X G0 f51.at_
  have b52 := f52.F.binds (ps := ["_law_purse_here", "_law_some"]) fun _ _ _ _ _ _ us hl => match us, hl with | [_, _], _ => rfl
  have g52 := PySem.W.mg_of X G0 f52.at_
  have b53 := f53.F.binds (ps := ["_law_purse_here"]) fun _ _ _ _ _ _ us hl => match us, hl with | [_], _ => rfl
  have g53 := PySem.W.mg_of X G0 f53.at_
  have b54 := f54.F.binds (ps := ["_law_purse_here"]) fun _ _ _ _ _ _ us hl => match us, hl with | [_], _ => rfl
  have g54 := PySem.W.mg_of X G0 f54.at_
  have b55 := f55.F.binds (ps := ["_law_fixed", "_law_many"]) fun _ _ _ _ _ _ us hl => match us, hl with | [_, _], _ => rfl
  have g55 := PySem.W.mg_of X G0 f55.at_
  have b56 := f56.F.binds (ps := ["_law_one", "_law_other"]) fun _ _ _ _ _ _ us hl => match us, hl with | [_, _], _ => rfl
  have g56 := PySem.W.mg_of X G0 f56.at_
  have b57 := f57.F.binds (ps := ["_law_way", "_law_value", "_law_many"]) fun _ _ _ _ _ _ us hl => match us, hl with | [_, _, _], _ => rfl
  have g57 := PySem.W.mg_of X G0 f57.at_
  have b58 := f58.F.binds (ps := ["_law_told", "_law_word_here", "_law_thing"]) fun _ _ _ _ _ _ us hl => match us, hl with | [_, _, _], _ => rfl
  have g58 := PySem.W.mg_of X G0 f58.at_
  have b59 := f59.F.binds (ps := ["_law_value"]) fun _ _ _ _ _ _ us hl => match us, hl with | [_], _ => rfl
  have g59 := PySem.W.mg_of X G0 f59.at_
  have b60 := f60.F.binds (ps := []) fun _ _ _ _ _ _ us hl => match us, hl with | [], _ => rfl
  have g60 := PySem.W.mg_of X G0 f60.at_
  have b61 := f61.F.binds (ps := ["_law_rows"]) fun _ _ _ _ _ _ us hl => match us, hl with | [_], _ => rfl
  have g61 := PySem.W.mg_of X G0 f61.at_
  have b62 := f62.F.binds (ps := ["_law_purse_here"]) fun _ _ _ _ _ _ us hl => match us, hl with | [_], _ => rfl
  have g62 := PySem.W.mg_of X G0 f62.at_
  have b63 := f63.F.binds (ps := ["_law_purse_here"]) fun _ _ _ _ _ _ us hl => match us, hl with | [_], _ => rfl
  have g63 := PySem.W.mg_of X G0 f63.at_
  have b64 := f64.F.binds (ps := ["_law_editions"]) fun _ _ _ _ _ _ us hl => match us, hl with | [_], _ => rfl
  have g64 := PySem.W.mg_of X G0 f64.at_
  have b65 := f65.F.binds (ps := ["_law_purse_here"]) fun _ _ _ _ _ _ us hl => match us, hl with | [_], _ => rfl
  have g65 := PySem.W.mg_of X G0 f65.at_
  have b66 := f66.F.binds (ps := ["_law_script"]) fun _ _ _ _ _ _ us hl => match us, hl with | [_], _ => rfl
  have g66 := PySem.W.mg_of X G0 f66.at_
  have bGI := fGI.binds (ps := ["self", "forms", "hard"]) fun _ _ _ _ _ _ us hl => match us, hl with | [_, _, _], _ => rfl
  have bEI := fEI.binds (ps := ["self", "forms", "hard"]) fun _ _ _ _ _ _ us hl => match us, hl with | [_, _, _], _ => rfl
  have bGF := fGF.binds (ps := ["self"]) fun _ _ _ _ _ _ us hl => match us, hl with | [_], _ => rfl
  have bEQ := fEQ.binds (ps := ["self", "other"]) fun _ _ _ _ _ _ us hl => match us, hl with | [_, _], _ => rfl
  refine ⟨d66, fun s u => ?_, fun base _ _ => ?_⟩
  · obtain ⟨_, _, _, _, _, _, _, _, _, rfl, _, _⟩ := f66.F.ex
    exact .of_eq rfl
  · have nm : Nms mg := ⟨nisinstance, nstr, nlist, ntuple, ndict, nbool, nlen, nall, nzip⟩
    have er : Errs K mg T CT CX CE CC := ⟨hCT.z, hCX.z, hCE.z, hCC.z, hT.cat, mCT, mCX, mCE, mCC, mT, dsc, nt, nx, ne, nc, tx, te, tc, xe, xc, ec, nisinstance, nValueError⟩
    have G0 := ok_run (P := l.prog) (w := w) (base := base) f0.F nisinstance nstr nlen mM
    have G1 := ok_word' (P := l.prog) (w := w) (base := base) f1.F f0.F.kp G0 b0 g0
    have G2 := ok_sign (P := l.prog) (w := w) (base := base) f2.F nisinstance nstr nlen mS
    have G3 := ok_num (P := l.prog) (w := w) (base := base) f3.F f0.F.kp G0 b0 g0
    have G4 := ok_quoted (P := l.prog) (w := w) (base := base) f4.F f1.F.kp G1 b1 g1 nisinstance nstr mQ
    have G5 := ok_token (P := l.prog) (w := w) (base := base) f5.F f1.F.kp G1 b1 g1 f2.F.kp G2 b2 g2 f3.F.kp G3 b3 g3 f4.F.kp G4 b4 g4 nisinstance nstr mB hB
    have G6 := ok_isText (P := l.prog) (w := w) (base := base) f6.F f5.F.kp G5 b5 g5 nisinstance nlist nall
    have G7 := ok_req (P := l.prog) (w := w) (base := base) f7.F f6.F.kp G6 b6 g6 hCX.z hCX.i mCX
    have G8 := ok_runEnd (P := l.prog) (w := w) (base := base) f8.F nlen mL mF
    have G9 := ok_tokEnd (P := l.prog) (w := w) (base := base) f9.F f8.F.kp G8 b8 g8 nlist mL mF mQ
    have G10 := ok_cut (P := l.prog) (w := w) (base := base) f10.F f9.F.kp G9 b9 g9 f6.F.kp G6 b6 g6 hCX.z hCX.i mCX nisinstance nstr nlen
    have G11 := ok_lineOf (P := l.prog) (w := w) (base := base) f11.F f7.F.kp G7 b7 g7
    have G12 := ok_tog (P := l.prog) (w := w) (base := base) f12.F f1.F.kp G1 b1 g1 f3.F.kp G3 b3 g3 f4.F.kp G4 b4 g4
    have G13 := ok_tight (P := l.prog) (w := w) (base := base) f13.F f7.F.kp G7 b7 g7 f12.F.kp G12 b12 g12 nenumerate
    have G14 := ok_fixed (P := l.prog) (w := w) (base := base) f14.F f1.F.kp G1 b1 g1 f2.F.kp G2 b2 g2
    have G15 := ok_count (P := l.prog) (w := w) (base := base) (k := 0) f15.F nisinstance nint nbool
    have G16 := ok_level (P := l.prog) (w := w) (base := base) f16.F f15.F.kp G15 b15 g15 mG
    have G17 := ok_pat (P := l.prog) (w := w) (base := base) f17.F f14.F.kp G14 b14 g14 mH mI mO nisinstance ntuple nlen nall nany nrange
    have G18 := ok_well (P := l.prog) (w := w) (base := base) f18.F f17.F.kp G17 b17 g17 f16.F.kp G16 b16 g16 mH nisinstance ntuple nlen nall
    have G19 := ok_tail (P := l.prog) (w := w) (base := base) (k := 0) f19.F mH
    have G20 := ok_own (P := l.prog) (w := w) (base := base) (k := 0) f20.F f19.F.kp G19 b19 g19
    have G21 := ok_hole (P := l.prog) (w := w) (base := base) (k := 0) (mg := mg) f21.F 
    have G22 := ok_keys (P := l.prog) (w := w) (base := base) f22.F f20.F.kp G20 b20 g20 f21.F.kp G21 b21 g21 mH nlen nrange
    have G23 := ok_keylev (P := l.prog) (w := w) (base := base) f23.F f22.F.kp G22 b22 g22 nlist nzip
    have G24 := ok_foll (P := l.prog) (w := w) (base := base) (k := 0) f24.F mH nlen nrange
    have G25 := ok_firsts (P := l.prog) (w := w) (base := base) f25.F f19.F.kp G19 b19 g19
    have G26 := ok_tails (P := l.prog) (w := w) (base := base) f26.F f19.F.kp G19 b19 g19
    have G27 := ok_mids (P := l.prog) (w := w) (base := base) f27.F f19.F.kp G19 b19 g19 mH
    have G28 := ok_doubled (P := l.prog) (w := w) (base := base) (k := 0) (mg := mg) f28.F 
    have G29 := ok_unlike (P := l.prog) (w := w) (base := base) f29.F f23.F.kp G23 b23 g23
    have G30 := ok_parted (P := l.prog) (w := w) (base := base) f30.F f24.F.kp G24 b24 g24 mH nlen nset
    have G31 := ok_tailmid (P := l.prog) (w := w) (base := base) f31.F f27.F.kp G27 b27 g27 f26.F.kp G26 b26 g26
    have G32 := ok_hardno (P := l.prog) (w := w) (base := base) f32.F f25.F.kp G25 b25 g25
    have G33 := ok_softal (P := l.prog) (w := w) (base := base) f33.F f1.F.kp G1 b1 g1 nlen
    let ZC : ClashFns l.prog w K mg base := { f1 := a28, d1 := d28, k1 := f28.F.kp, G1 := G28, b1 := b28, g1 := g28, f2 := a29, d2 := d29, k2 := f29.F.kp, G2 := G29, b2 := b29, g2 := g29, f3 := a30, d3 := d30, k3 := f30.F.kp, G3 := G30, b3 := b30, g3 := g30, f4 := a31, d4 := d31, k4 := f31.F.kp, G4 := G31, b4 := b31, g4 := g31, f5 := a32, d5 := d32, k5 := f32.F.kp, G5 := G32, b5 := b32, g5 := g32, f6 := a33, d6 := d33, k6 := f33.F.kp, G6 := G33, b6 := b33, g6 := g33 }
    have G34 := ok_least (P := l.prog) (w := w) (base := base) f34.F ZC
    have G35 := ok_what (P := l.prog) (w := w) (base := base) (k := 0) f35.F mH nsorted nset
    have G36 := ok_isform (P := l.prog) (w := w) (base := base) f36.F f18.F.kp G18 b18 g18
    have G37 := ok_reqforms (P := l.prog) (w := w) (base := base) f37.F f36.F.kp G36 b36 g36 nisinstance nlist nall
    have G38 := ok_arewords (P := l.prog) (w := w) (base := base) f38.F f1.F.kp G1 b1 g1 nisinstance nlist nall nlen nset
    have G39 := ok_reqwords (P := l.prog) (w := w) (base := base) f39.F f38.F.kp G38 b38 g38
    have G40 := ok_first (P := l.prog) (w := w) (base := base) f40.F f37.F.kp G37 b37 g37 f39.F.kp G39 b39 g39 f34.F.kp G34 b34 g34
    have GGI := ok_gram (P := l.prog) (w := w) (base := base) fGI ZG f23.F.kp G23 b23 g23 f24.F.kp G24 b24 g24 f35.F.kp G35 b35 g35 ntuple f27.F.kp G27 b27 g27
    have GEI := ok_edit (P := l.prog) (w := w) (base := base) fEI ZD f40.F.kp G40 b40 g40 MG GGI bGI mGr nsorted
    have GGF := ok_fixedM (P := l.prog) (w := w) (base := base) (k := 0) fGF ZG nsorted nset nlist
    have GEQ := ok_edeq (P := l.prog) (w := w) (base := base) fEQ ZK ZD mEd nisinstance
    have G41 := ok_reqtok (P := l.prog) (w := w) (base := base) f41.F f5.F.kp G5 b5 g5 hCT.z hCT.i mCT
    have G42 := ok_kind (P := l.prog) (w := w) (base := base) f42.F f41.F.kp G41 b41 g41 f1.F.kp G1 b1 g1 f3.F.kp G3 b3 g3 f4.F.kp G4 b4 g4
    have G43 := ok_unmarked (P := l.prog) (w := w) (base := base) f43.F f7.F.kp G7 b7 g7 f4.F.kp G4 b4 g4 mB hB
    have G44 := ok_wordat (P := l.prog) (w := w) (base := base) (k := 0) f44.F mL
    have G45 := ok_reqed (P := l.prog) (w := w) (base := base) (k := 0) f45.F hCE.z hCE.i mCE mEd nisinstance nlist nall
    have G46 := ok_free (P := l.prog) (w := w) (base := base) (k := 0) f46.F ZD ZG f45.F.kp G45 b45 g45 f15.F.kp G15 b15 g15 f44.F.kp G44 b44 g44 hX GGF bGF hCC.z hCC.i mCC mW nlen
    have G47 := ok_purse (P := l.prog) (w := w) (base := base) (k := 0) f47.F nsum nint nmax
    have G49 := ok_draw (P := l.prog) (w := w) (base := base) f49.F f48.F b48 g48 nint nrange
    have G50 := ok_purses (P := l.prog) (w := w) (base := base) f50.F f47.F.kp G47 b47 g47 nlen nrange nmax nmin
    have G51 := ok_oneof (P := l.prog) (w := w) (base := base) f51.F f49.F.kp G49 b49 g49 nlen
    have G52 := ok_shuf (P := l.prog) (w := w) (base := base) f52.F f49.F.kp G49 b49 g49 nlen
    have G53 := ok_word (P := l.prog) (w := w) (base := base) f53.F f49.F.kp G49 b49 g49 nrange
    have G54 := ok_tokD3 (P := l.prog) (w := w) (base := base) f54.F ⟨a49, d49, f49.F.kp, g49, b49, G49⟩ ⟨a53, d53, f53.F.kp, g53, b53, G53⟩ ⟨a51, d51, f51.F.kp, g51, b51, G51⟩ nlist
    have G55 := ok_countup (P := l.prog) (w := w) (base := base) (k := 0) f55.F nlen nrange nreversed
    have G56 := ok_exactE (P := l.prog) (w := w) (base := base) f56.F b56 g56 nm ZK GEQ hs hfn bEQ 8
    have G57 := ok_called (P := l.prog) (w := w) (base := base) f57.F er f42.F.kp G42 b42 g42 f43.F.kp G43 b43 g43 f46.F.kp G46 b46 g46
    have G58 := ok_very3 (P := l.prog) (w := w) (base := base) f58.F f56.F.kp G56 b56 g56 nisinstance nlist
    have G59 := ok_based (P := l.prog) (w := w) (base := base) f59.F er f42.F.kp G42 b42 g42
    have G60 := ok_edges3 (P := l.prog) (w := w) (base := base) f60.F MD GEI bEI mEd nlist
    have G61 := ok_kinds (P := l.prog) (w := w) (base := base) f61.F ZK ⟨a5, d5, f5.F.kp, g5, b5, G5⟩ (kb_one f5.F fun _ _ _ _ _ _ _ => rfl) ⟨a42, d42, f42.F.kp, g42, b42, G42⟩ (kb_one f42.F fun _ _ _ _ _ _ _ => rfl) ⟨a56, d56, f56.F.kp, g56, b56, G56⟩ ⟨a57, d57, f57.F.kp, g57, b57, G57⟩ ⟨a58, d58, f58.F.kp, g58, b58, G58⟩ ⟨a59, d59, f59.F.kp, g59, b59, G59⟩
    have G62 := ok_unmR (P := l.prog) (w := w) (base := base) f62.F ZK ⟨a49, d49, f49.F.kp, g49, b49, G49⟩ ⟨a51, d51, f51.F.kp, g51, b51, G51⟩ ⟨a54, d54, f54.F.kp, g54, b54, G54⟩ ⟨a43, d43, f43.F.kp, g43, b43, G43⟩ (kb_one f43.F fun _ _ _ _ _ _ _ => rfl) ⟨a56, d56, f56.F.kp, g56, b56, G56⟩ ⟨a57, d57, f57.F.kp, g57, b57, G57⟩ ⟨a58, d58, f58.F.kp, g58, b58, G58⟩ nlist ntuple nlen nrange
    have G63 := ok_short (P := l.prog) (w := w) (base := base) f63.F ⟨a49, d49, f49.F.kp, g49, b49, G49⟩ ⟨a52, d52, f52.F.kp, g52, b52, G52⟩ nsorted nset
    have G64 := ok_refu (P := l.prog) (w := w) (base := base) f64.F ZK ZN ⟨a57, d57, f57.F.kp, g57, b57, G57⟩ ⟨a58, d58, f58.F.kp, g58, b58, G58⟩ ntuple
    have G65 := ok_freeR (P := l.prog) (w := w) (base := base) f65.F ZK ZN ⟨a49, d49, f49.F.kp, g49, b49, G49⟩ ⟨a51, d51, f51.F.kp, g51, b51, G51⟩ ⟨a63, d63, f63.F.kp, g63, b63, G63⟩ ⟨a55, d55, f55.F.kp, g55, b55, G55⟩ ⟨a46, d46, f46.F.kp, g46, b46, G46⟩ (kb_two f46.F fun _ _ _ _ _ _ _ _ => rfl) ⟨a56, d56, f56.F.kp, g56, b56, G56⟩ ⟨a64, d64, f64.F.kp, g64, b64, G64⟩ MD GEI bEI mEd nlist nlen nrange
    exact ok_law3 (P := l.prog) (w := w) (base := base) f66.F ⟨a60, d60, f60.F.kp, g60, b60, G60⟩ ⟨a50, d50, f50.F.kp, g50, b50, G50⟩ ⟨a53, d53, f53.F.kp, g53, b53, G53⟩ ⟨a62, d62, f62.F.kp, g62, b62, G62⟩ ⟨a65, d65, f65.F.kp, g65, b65, G65⟩ ⟨a10, d10, f10.F.kp, g10, b10, G10⟩ (kb_one f10.F fun _ _ _ _ _ _ _ => rfl) ⟨a11, d11, f11.F.kp, g11, b11, G11⟩ (kb_one f11.F fun _ _ _ _ _ _ _ => rfl) ⟨a13, d13, f13.F.kp, g13, b13, G13⟩ (kb_one f13.F fun _ _ _ _ _ _ _ => rfl) ⟨a61, d61, f61.F.kp, g61, b61, G61⟩
end K2

open PySem PySem.W PyProof.Rows
set_option maxRecDepth 100000 in
set_option maxHeartbeats 0 in
theorem PySem.Challenge.cw_keptreadings_k03_tokens_refused_and_by_n_holds : PySem.Challenge.rw_keptreadings_k03_tokens_refused_and_by_n.Holds := by
  w_on; o_law; k_head; (case hw => w_witness2)
  k_fill
  refine K2.walk (l := PySem.Challenge.rw_keptreadings_k03_tokens_refused_and_by_n) (k := 12) rfl rfl ⟨rfl, by decide, by decide⟩ (fun w h Y => PySem.W.kIn_of Y) ?F
  case F =>
    intro w mg fa h KX G hmg
    exact K2.all_mk KX G hmg (K2.bar_mk (by k_is) (by k_is) (by k_is) (by k_is) (by k_is) (by k_exc) (by k_is) (by decide +kernel))
      (K2.cls_mk (by k_is) (by k_is) (by k_is) (by k_is) (by k_is) (by k_is) (by k_is) (by k_is) (by k_is) (by k_is) (by k_is) (by k_is) (by k_is) rfl)
      (K2.cls_mk (by k_is) (by k_is) (by k_is) (by k_is) (by k_is) (by k_is) (by k_is) (by k_is) (by k_is) (by k_is) (by k_is) (by k_is) (by k_is) rfl)
      (K2.cls_mk (by k_is) (by k_is) (by k_is) (by k_is) (by k_is) (by k_is) (by k_is) (by k_is) (by k_is) (by k_is) (by k_is) (by k_is) (by k_is) rfl)
      (K2.cls_mk (by k_is) (by k_is) (by k_is) (by k_is) (by k_is) (by k_is) (by k_is) (by k_is) (by k_is) (by k_is) (by k_is) (by k_is) (by k_is) rfl)
      (by decide +kernel) (by decide +kernel) (by decide +kernel) (by decide +kernel) (by decide +kernel) (by decide +kernel) (by decide +kernel) (by decide +kernel) (by decide +kernel) (by decide +kernel) ⟨by k_is, by k_is⟩
      (by k_is) (by k_is) (by k_is) (by k_is) (by k_is) (by k_is) (by k_is) (by k_is) (by k_is) (by k_is)
      (by k_is) (by k_is) rfl rfl rfl
      (by k_is) (by k_is)
      (K2.gram_mk ⟨by k_is, by k_is, by k_is, by k_is⟩ (by k_is) (by k_is) (by k_is) (by k_is) (by k_is) (by k_is))
      ⟨by k_is, by k_is, by k_is, by k_is⟩
      ⟨by k_is, by k_is, by k_is⟩
      (K2.edit_mk ⟨by k_is, by k_is, by k_is, by k_is⟩ (by k_is) (by k_is) (by k_is))
      ⟨by k_is, by k_is, by k_is, by k_is⟩
      ⟨⟨⟨by k_is, by k_is, by k_is, by k_is⟩, by k_is, by k_is, by k_is, by k_is, K2.kit_self _⟩, (K2.kit_ownT (by decide +kernel) (by k_is)), (K2.kit_ownT (by decide +kernel) (by k_is)), (K2.kit_ownT (by decide +kernel) (by k_is)), (K2.kit_ownT (by decide +kernel) (by k_is)), (K2.kit_ownT (by decide +kernel) (by k_is)), (K2.kit_ownT (by decide +kernel) (by k_is))⟩
      ⟨(K2.kit_Town (by k_is) (by k_is) (by k_is)), (K2.kit_Town (by k_is) (by k_is) (by k_is)), (K2.kit_Town (by k_is) (by k_is) (by k_is)), K2.kit_self _⟩ (by k_is) (by k_is)
      (L2.fun_mk (by k_is) (by k_is) (by k_is))
      (L2.fun_mk (by k_is) (by k_is) (by k_is))
      (L2.fun_mk (by k_is) (by k_is) (by k_is))
      (L2.fun_mk (by k_is) (by k_is) (by k_is))
      (K2.fn_mk (by k_is) (by k_is) (by k_is) (by k_is))
      (K2.fn_mk (by k_is) (by k_is) (by k_is) (by k_is))
      (K2.fn_mk (by k_is) (by k_is) (by k_is) (by k_is))
      (K2.fn_mk (by k_is) (by k_is) (by k_is) (by k_is))
      (K2.fn_mk (by k_is) (by k_is) (by k_is) (by k_is))
      (K2.fn_mk (by k_is) (by k_is) (by k_is) (by k_is))
      (K2.fn_mk (by k_is) (by k_is) (by k_is) (by k_is))
      (K2.fn_mk (by k_is) (by k_is) (by k_is) (by k_is))
      (K2.fn_mk (by k_is) (by k_is) (by k_is) (by k_is))
      (K2.fn_mk (by k_is) (by k_is) (by k_is) (by k_is))
      (K2.fn_mk (by k_is) (by k_is) (by k_is) (by k_is))
      (K2.fn_mk (by k_is) (by k_is) (by k_is) (by k_is))
      (K2.fn_mk (by k_is) (by k_is) (by k_is) (by k_is))
      (K2.fn_mk (by k_is) (by k_is) (by k_is) (by k_is))
      (K2.fn_mk (by k_is) (by k_is) (by k_is) (by k_is))
      (K2.fn_mk (by k_is) (by k_is) (by k_is) (by k_is))
      (K2.fn_mk (by k_is) (by k_is) (by k_is) (by k_is))
      (K2.fn_mk (by k_is) (by k_is) (by k_is) (by k_is))
      (K2.fn_mk (by k_is) (by k_is) (by k_is) (by k_is))
      (K2.fn_mk (by k_is) (by k_is) (by k_is) (by k_is))
      (K2.fn_mk (by k_is) (by k_is) (by k_is) (by k_is))
      (K2.fn_mk (by k_is) (by k_is) (by k_is) (by k_is))
      (K2.fn_mk (by k_is) (by k_is) (by k_is) (by k_is))
      (K2.fn_mk (by k_is) (by k_is) (by k_is) (by k_is))
      (K2.fn_mk (by k_is) (by k_is) (by k_is) (by k_is))
      (K2.fn_mk (by k_is) (by k_is) (by k_is) (by k_is))
      (K2.fn_mk (by k_is) (by k_is) (by k_is) (by k_is))
      (K2.fn_mk (by k_is) (by k_is) (by k_is) (by k_is))
      (K2.fn_mk (by k_is) (by k_is) (by k_is) (by k_is))
      (K2.fn_mk (by k_is) (by k_is) (by k_is) (by k_is))
      (K2.fn_mk (by k_is) (by k_is) (by k_is) (by k_is))
      (K2.fn_mk (by k_is) (by k_is) (by k_is) (by k_is))
      (K2.fn_mk (by k_is) (by k_is) (by k_is) (by k_is))
      (K2.fn_mk (by k_is) (by k_is) (by k_is) (by k_is))
      (K2.fn_mk (by k_is) (by k_is) (by k_is) (by k_is))
      (K2.fn_mk (by k_is) (by k_is) (by k_is) (by k_is))
      (K2.fn_mk (by k_is) (by k_is) (by k_is) (by k_is))
      (K2.fn_mk (by k_is) (by k_is) (by k_is) (by k_is))
      (K2.fn_mk (by k_is) (by k_is) (by k_is) (by k_is))
      (K2.fn_mk (by k_is) (by k_is) (by k_is) (by k_is))
      (K2.fn_mk (by k_is) (by k_is) (by k_is) (by k_is))
      (K2.fn_mk (by k_is) (by k_is) (by k_is) (by k_is))
      (K2.fn_mk (by k_is) (by k_is) (by k_is) (by k_is))
      (K2.fn_mk (by k_is) (by k_is) (by k_is) (by k_is))
      (K2.fn_mk (by k_is) (by k_is) (by k_is) (by k_is))
      (K2.fn_mk (by k_is) (by k_is) (by k_is) (by k_is))
      (K2.fn_mk (by k_is) (by k_is) (by k_is) (by k_is))
      (K2.fn_mk (by k_is) (by k_is) (by k_is) (by k_is))
      (K2.fn_mk (by k_is) (by k_is) (by k_is) (by k_is))
      (K2.fn_mk (by k_is) (by k_is) (by k_is) (by k_is))
      (K2.fn_mk (by k_is) (by k_is) (by k_is) (by k_is))
      (K2.fn_mk (by k_is) (by k_is) (by k_is) (by k_is))
      (K2.fn_mk (by k_is) (by k_is) (by k_is) (by k_is))
      (K2.fn_mk (by k_is) (by k_is) (by k_is) (by k_is))
      (K2.fn_mk (by k_is) (by k_is) (by k_is) (by k_is))
      (K2.fn_mk (by k_is) (by k_is) (by k_is) (by k_is))
      (K2.fn_mk (by k_is) (by k_is) (by k_is) (by k_is))
      (K2.fn_mk (by k_is) (by k_is) (by k_is) (by k_is))
      (K2.fn_mk (by k_is) (by k_is) (by k_is) (by k_is))
      (K2.fn_mk (by k_is) (by k_is) (by k_is) (by k_is))
      (K2.fn_mk (by k_is) (by k_is) (by k_is) (by k_is))
      (K2.fn_mk (by k_is) (by k_is) (by k_is) (by k_is))
      (K2.fn_mk (by k_is) (by k_is) (by k_is) (by k_is))
      (K2.fn_mk (by k_is) (by k_is) (by k_is) (by k_is))
      (K2.fn_mk (by k_is) (by k_is) (by k_is) (by k_is))
      (K2.fn_mk (by k_is) (by k_is) (by k_is) (by k_is))
      (K2.fn_mk (by k_is) (by k_is) (by k_is) (by k_is))
      (by k_is) (by k_is) (by k_is) (by k_is) (by k_is) (by k_is) (by k_is) (by k_is) (by k_is) (by k_is) (by k_is) (by k_is) (by k_is) (by k_is) (by k_is) (by k_is) (by k_is) (by k_is) (by k_is) (by k_is)
