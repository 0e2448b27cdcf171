import PyProof.Rows.All
import Wide.All
import OpenK.AllK
import Wide.FinOn
import PyProof.EqAt
import PyProof.EqKinds
import PyProof.TupleCall
import KE.KExcSuper
import KE.KExcIs
import HandS.ForMost
import HandS.Exc
import HandS.ExcOwn
import HandS.WordsExc
import HandS.HotCalls
import HandS.Wide
import HandS.ExcInit
import HandS.TryMany
import HandS.ExcField
import HandS.Star
import HandS.IsInst
import HandS.CallLocal
import HandS.Iter
import HandS.Deep
import HandS.Walk
import HandS.ForDict
import HandS.Defaults
import HandS.More
import HandS.DictComp
import HandS.Style
import KE.RegKSuper
import HandS.HeadHook3
import PySem.Challenge.RW_tagblocks_k15_whole_block_limits_by_ways
set_option Elab.async false
set_option linter.all false
set_option maxRecDepth 100000
set_option maxHeartbeats 2000000
/-! Part A: an own error over a common error over ValueError; its __init__ says super().__init__('..') and stores its arguments. -/
namespace ErrA
open PySem PySem.W PySem.Calls PyProof.Rows PySem.HandSPX
/-- what the written part tells of the class at C; its __init__ at fI closes over the cell cc, its code object stands at cda -/
structure ErrTxt (P : Program) (K : Frag) (C fI cc cda : Addr) (qual : Str) (st : Stmt) : Prop where
  cls : ∃ nm q N bs bm sn sub ab col dd k0 k1 k2 k3 k5, K.lookup C = some (excClassObj nm q C N bs bm true sn sub ab col dd k0 k1 k2 k3 k5 "ValueError.__new__") ∧ refsVE bm = true
  sa : findIn K (.ref C) "__setattr__" = some (some (.builtin "object.__setattr__"))
  iC : findIn K (.ref C) "__init__" = some (some (.ref fI))
  tI : typeIn K (.ref fI) = some (.type "function")
  kC : keepIn K (.ref C) = true
  exC : subIn K (.ref C) (.type "BaseException") = some true
  veC : subIn K (.ref C) (.type "ValueError") = some true
  meC : mroIn K C (.ref C) = some true
  tyC : typeIn K (.ref C) = some (.type "type")
  sup : ks_superIn K C C "__init__" = some (some (.builtin "ValueError.__init__"))
  opq : nsIn K cStatics "thirdparty.any" = some none
  gS : nsIn K mainGlobals "super" = some none
  cell : ∃ cl cld csl, K.lookup cc = some ⟨cl, cld, .cell (some (.ref C)), csl⟩
  code : ∃ (ccl : Value) (cdd : Option Addr) (vs : Array Value) (ccs : Array (Option Value)) (file : Str) (tf : Tok), K.lookup cda = some ⟨ccl, cdd, .fields vs, ccs⟩ ∧ vs[2]? = some (.str file tf) ∧ ((P.main.file : Str) == file) = true
  rec_ : codeIn K (.ref cda) qual = true
  fn : ∃ (oc : Value) (od : Option Addr) (kV doc pm : Value) (an : Option Addr) (ct : Value) (osl : Array (Option Value)),
    K.lookup fI = some ⟨oc, od, .func (ksFn "__init__" qual (L2.defArgs st) (L2.defBody st) (L2.defScope st) .none kV doc pm an (.ref cda) ct cc), osl⟩
/-- what the module's names are over the base -/
structure Gnd (K : Frag) (mg : Str → Option Value) (base : Heap) : Prop where
  kin : K.In base
  glob : base.Ns mainGlobals mg
  blt : ∃ mb, base.Ns builtinsNs mb ∧ ∀ x : Str, x ≠ "__name__" → mb x = bootBuiltins x
  lim : base.NoLimit

section
variable {P : Program} {w : World} {K : Frag} {mg : Str → Option Value} {base : Heap} {C fI cc cda : Addr} {qual : Str} {st : Stmt} {A : Around} {E : Value → Shared → Prop}
theorem err_cls (T : ErrTxt P K C fI cc cda qual st) : ∃ cd, clsIn K C = some cd ∧ cd.hasDict = true ∧ refsVE cd.mro = true := by
  obtain ⟨nm, q, N, bs, bm, sn, sub, ab, col, dd, k0, k1, k2, k3, k5, hC, hbm⟩ := T.cls
  refine ⟨_, by unfold clsIn; rw [hC] <;> rfl, rfl, ?_⟩
  exact hbm
/-- the built-in __init__, bound to the exception at x, called -/
theorem bound_init (T : ErrTxt P K C fI cc cda qual st) {x t0 u : Addr} {rest : List Value} {h : Heap} {g : Array GenState} {d : Drawn} {t : Nat} {os : OsState} {Q : Value → Shared → Prop} (X : K.In h)
    (hx : h.get? x = some (excO C t0)) (hu : h.get? u = some (kxs_mw "ValueError.__init__" x)) (hl : rest.length ≤ sizeLine)
    (hq : ∀ h' t1, (∀ b o, b ≠ x → h.get? b = some o → h'.get? b = some o) → h'.get? x = some (excO C t1) → Q .none ⟨h', g, d, t, os⟩) :
    wpAny (model P w) A (call (.ref u) rest) Q E ⟨h, g, d, t, os⟩ := by
  obtain ⟨nm, q, N, bs, bm, sn, sub, ab, col, dd, k0, k1, k2, k3, k5, hC, hbm⟩ := T.cls
  have hC' := X _ _ hC
  refine wpAny_call (codeAny_of_tree ?_)
  show wpAny _ A.in1 (callAny (.ref u) ⟨rest, []⟩) _ _ _
  unfold callAny
  refine wpAny_bind (wpAny_load hu ?_)
  refine KFB.if_so rfl ?_
  refine wpAny_bind (check_bound_init PySem.F.excBase_ValueError.toExcCallFacts hC' hx rfl ?_)
  refine wpAny_bind (wpAny_pure (wpAny_pure ⟨plainId_quiet PySem.F.excBase_ValueError.init.plain _, codeAny_builtin PySem.F.excBase_ValueError.initEntry ?_⟩))
  exact exc_init_tree (cls := .ref C) (dv := none) (c2 := .none) (c3 := .none) (b4 := .bool false) hx hl fun h' k e _ => hq h' _ k e
end
end ErrA
namespace ErrA
open PySem PySem.W PySem.Calls PyProof.Rows PySem.HandSPX
section
variable {P : Program} {w : World} {K : Frag} {mg : Str → Option Value} {base : Heap} {C fI cc cda : Addr} {qual : Str} {st : Stmt} {A : Around} {E : Value → Shared → Prop}
/-- the frame of such an __init__ -/
abbrev eV (qual : Str) (st : Stmt) (L fI cda cc : Addr) : Env := ksEnv qual (L2.defScope st) L fI (.ref cda) cc
/-- what is asked of the text of such an __init__ -/
structure ErrScope (P : Program) (st : Stmt) (fl : List Str) (p0 p1 p2 p3 p4 : Pos) (msg : Str) (kk : Nat) : Prop where
  mc : ∀ (qual : Str) (L fI cda cc : Addr), ∃ pl : Sem Bool, eval (.Call (.Attribute (.Call (.Name "super" p0) [] [] p1) "__init__" p2) [.Constant (.str msg) kk p3] [] p4) (eV qual st L fI cda cc) = (do
      let ov ← attributeBase (.Call (.Name "super" p0) [] [] p1) "__init__" (eV qual st L fI cda cc) (eval (.Call (.Name "super" p0) [] [] p1) (eV qual st L fI cda cc))
      standAt p2.atName
      let (f, first) ← holding [ov] (getMethod ov "__init__" pl)
      callWith p4 f first (backTo p4 (starEach [.Constant (.str msg) kk p3] (eV qual st L fI cda cc))) [])
  kS : (L2.defScope st).names.lookup ("super" : Str) = some .globalImplicit
  kC : (L2.defScope st).names.lookup ("__class__" : Str) = some .free
  kL : ∀ f ∈ ("self" : Str) :: fl, (L2.defScope st).names.lookup f = some .local
  kF : (L2.defScope st).kind = .function
  kG : (L2.defScope st).isGenerator = false
  kO : (L2.defScope st).isCoroutine = false
  kN : ∀ y ∈ (L2.defScope st).names, y.2 ≠ .cell
  top : (P.main.scope.names.lookup ("super" : Str)).isSome = false
  par : ∃ ar : Arg, ((L2.defArgs st).posonlyargs ++ (L2.defArgs st).args).head? = some ar ∧ ar.arg = "self"
  dbg : ∀ f ∈ ("self" : Str) :: fl, (f == ("__debug__" : Str)) = false
/-- super().__init__('..') -/
theorem super_line {L x t0 : Addr} {m : Str → Option Value} {s : Shared} {fl : List Str} {p0 p1 p2 p3 p4 p5 : Pos} {msg : Str} {kk : Nat} {body : List Stmt} {Q : Flow → Shared → Prop} (T : ErrTxt P K C fI cc cda qual st) (S : ErrScope P st fl p0 p1 p2 p3 p4 msg kk) (G : Gnd K mg base)
    (kb : ∀ b o, base.get? b = some o → s.heap.get? b = some o) (hns : s.heap.Ns L m) (hm : m "self" = some (.ref x)) (hx : s.heap.get? x = some (excO C t0))
    (hq : ∀ h' tk t1, (∀ b o, b ≠ x → s.heap.get? b = some o → h'.get? b = some o) → h'.get? x = some (excO C t1) → Q .next { s with heap := h', toks := tk }) :
    _root_.PySem.wpAt (model P w) A (.func body (eV qual st L fI cda cc)) (exec (.Expr (.Call (.Attribute (.Call (.Name "super" p0) [] [] p1) "__init__" p2) [.Constant (.str msg) kk p3] [] p4) p5) (eV qual st L fI cda cc)) Q E s := by
  have X : K.In s.heap := G.kin.keeps kb
  have gS := mg_none_of G.kin G.glob T.gS
  obtain ⟨mb, hmb, hbt⟩ := G.blt
  obtain ⟨cd, hcd, hdct, hmro⟩ := err_cls T
  obtain ⟨oD, hD1, hD2⟩ : ∃ oD, K.lookup C = some oD ∧ oD.data = .cls cd := by
    obtain ⟨nm, q, N, bs, bm, sn, sub, ab, col, dd, k0, k1, k2, k3, k5, hC, hbm⟩ := T.cls
    unfold clsIn at hcd
    rw [hC] at hcd
    exact ⟨_, hC, by cases hcd; rfl⟩
  obtain ⟨cl, cld, csl, hcell⟩ := T.cell
  obtain ⟨ccl, cdd, vs, ccs, file, tf, hcode, hvs, hfile⟩ := T.code
  obtain ⟨oc, od, kV, doc, pm, an, ct, osl, hfn⟩ := T.fn
  obtain ⟨ar, har, harg⟩ := S.par
  obtain ⟨hh, g, d, t, os⟩ := s
  have hsup := T.sup
  unfold ks_superIn at hsup
  rw [hcd, Option.bind_some] at hsup
  have xC : x ≠ C := fun z => by
    rw [z, X _ _ hD1] at hx
    have z2 := congrArg Obj.data (Option.some.inj hx)
    rw [hD2] at z2
    cases z2
  have hint : interactive (eV qual st L fI cda cc) = false := by
    unfold interactive
    rw [show (eV qual st L fI cda cc).scope.kind = .function from S.kF]
    rfl
  obtain ⟨pl, hmc⟩ := S.mc qual L fI cda cc
  refine ks_wpAt_Expr_any (ks_wpAt_MethodCall (pl := pl) (ks_wpAt_super_base (env := eV qual st L fI cda cc) S.kS S.kC (by decide) rfl (X _ _ hfn) rfl har rfl (X _ _ hcode) rfl hvs hfile S.top ?_) hmc) hint
  refine ks_loadName_global S.kF S.kS (loadGlobal_builtin (env := eV qual st L fI cda cc) (G.glob.keeps kb) gS (hmb.keeps kb) ((hbt _ (by decide +kernel)).trans (by first | boot_by_name | rfl | kernel_rfl)) ⟨rfl, ?_⟩)
  refine wpAny_loadName_free S.kF S.kC rfl ⟨_, X _ _ hcell, rfl⟩ ?_
  rw [harg]
  refine wpAny_loadName_local S.kF (S.kL _ (List.mem_cons_self ..)) hns hm ?_
  refine ks_wpAny_isType_cls (X _ _ hD1) hD2 ⟨rfl, ?_⟩
  refine ks_wpAny_call_super (X _ _ hD1) hD2 hx rfl (fun c z => nomatch z) (looks_mroIn X T.meC) (fun h1 e1 k1 => ?_)
  have X1 : K.In h1 := X.keeps k1
  have hx1 := k1 _ _ hx
  have hI : Looks (model P w) h1 (isInstance (.ref x) (.type "ValueError")) true := (show Looks (model P w) h1 (typeOf (.ref x)) (.ref C) from fun A Q E s k q => wpAny_typeOf_ref (k _ _ hx1) q).andThen (looks_subIn X1 T.veC)
  have hM : Looks (model P w) h1 (mroOf (.ref C)) cd.mro := (looks_clsIn X1 hcd).andThen .now
  refine kxs_getMethod kxs_ValueError e1 (looks_opaque X1 T.opq) hM rfl X1 hsup hI xC (by decide) ?_
  have e2 : (h1.push (kxs_mw "ValueError.__init__" x)).get? h1.objs.size = some (kxs_mw "ValueError.__init__" x) := Heap.get?_push_size _ rfl
  have k2 : ∀ b o, h1.get? b = some o → (h1.push (kxs_mw "ValueError.__init__" x)).get? b = some o := fun b o e => Heap.get?_push_of_some _ e
  refine kxs_callWith (i := "ValueError.__init__") (x := x) rfl (evalArgs_plain (spliced_cons (Constant_str (pos := p3) (k := kk) (spliced_nil ⟨e2, ?_⟩))))
  refine bound_init T (X1.keeps k2) (k2 _ _ hx1) e2 (by show 1 ≤ sizeLine; rw [sizeLine_eq]; decide) (fun h' t1 k3 e3 => ?_)
  exact hq h' _ t1 (fun b o hb e => k3 b o hb (k2 _ _ (k1 _ _ e))) e3
end
end ErrA

namespace ErrA
open PySem PySem.W PySem.Calls PyProof.Rows PySem.HandSPX
/-- the names of an exception's own dict, the newest first -/
def lk (fs : List (Str × Value)) : Str → Option Value := fun y => fs.lookup y
theorem lk_more (f : Str) (v : Value) (fs : List (Str × Value)) : lk ((f, v) :: fs) = fun y => if y = f then some v else lk fs y := by
  funext y
  unfold lk
  by_cases h : y = f
  · subst h
    rw [if_pos rfl]
    simp [List.lookup]
  · rw [if_neg h]
    have e : (y == f) = false := by simpa using h
    simp [List.lookup, e]
theorem lk_in : ∀ fs : List (Str × Value), Within (lk fs) (fs.map (·.1))
  | [] => fun y h => absurd rfl h
  | (f, v) :: r => fun y h => by
    have h : lk ((f, v) :: r) y ≠ none := h
    rw [lk_more] at h
    have h : (if y = f then some v else lk r y) ≠ none := h
    by_cases e : y = f
    · rw [e]
      exact List.mem_cons_self ..
    · rw [if_neg e] at h
      exact List.mem_cons_of_mem _ (lk_in r y h)
/-- self.f = f, once for each name -/
inductive Sets : List Stmt → List Str → Prop
  | nil : Sets [] []
  | cons {f : Str} {q1 q2 q3 q4 : Pos} {r : List Stmt} {fl : List Str} (h : Sets r fl) : Sets (.Assign [.Attribute (.Name "self" q1) f q2] (.Name f q3) q4 :: r) (f :: fl)
section
variable {P : Program} {w : World} {K : Frag} {mg : Str → Option Value} {base : Heap} {C fI cc cda : Addr} {qual : Str} {st : Stmt} {A : Around} {E : Value → Shared → Prop}
theorem ldE {L : Addr} {m : Str → Option Value} {f : Str} {pos : Pos} {v : Value} {s : Shared} {M : Model} {Q : Value → Shared → Prop} (hk : (L2.defScope st).kind = .function) (hl : (L2.defScope st).names.lookup f = some .local) (hd : (f == ("__debug__" : Str)) = false)
    (hns : s.heap.Ns L m) (hm : m f = some v) (h : Q v s) : wpAny M A (eval (.Name f pos) (eV qual st L fI cda cc)) Q E s := wpAny_Name (wpAny_loadName_local hk hl hns hm h) hd
/-- further fields: the exception has its dict -/
theorem sets_old (T : ErrTxt P K C fI cc cda qual st) {L x t0 dx : Addr} {m : Str → Option Value} (val : Str → Value) (hk : (L2.defScope st).kind = .function) (hself : (L2.defScope st).names.lookup ("self" : Str) = some .local) (hm0 : m "self" = some (.ref x)) (xL : L ≠ dx) :
    ∀ {sts : List Stmt} {fl : List Str}, Sets sts fl → ∀ (fs : List (Str × Value)) (s : Shared) (Q : Flow → Shared → Prop), fs.length + fl.length ≤ 900 → (∀ f ∈ fl, (L2.defScope st).names.lookup f = some .local ∧ (f == ("__debug__" : Str)) = false ∧ m f = some (val f) ∧ findIn K (.ref C) f = some none) →
      K.In s.heap → K.lookup dx = none → s.heap.Ns L m → s.heap.get? x = some { cls := .ref C, dict := some dx, data := .fields #[.ref t0, .none, .none, .none, .bool false, .none] } → x ≠ dx → s.heap.Ns1 dx (lk fs) →
      (∀ h' tk, (∀ b o, b ≠ dx → s.heap.get? b = some o → h'.get? b = some o) → h'.get? x = some { cls := .ref C, dict := some dx, data := .fields #[.ref t0, .none, .none, .none, .bool false, .none] } → h'.Ns1 dx (lk ((fl.map fun f => (f, val f)).reverse ++ fs)) → Q .next { s with heap := h', toks := tk }) →
      wpAny (model P w) A (execs sts (eV qual st L fI cda cc)) Q E s := by
  intro sts fl hs
  induction hs with
  | nil =>
    intro fs s Q _ _ X _ hns hx hxd hd hq
    exact wpAny_execs_nil (hq s.heap s.toks (fun _ _ _ e => e) hx hd)
  | @cons f q1 q2 q3 q4 r fl hs ih =>
    intro fs s Q hl hf X hKd hns hx hxd hd hq
    obtain ⟨cd, hcd, hdct, hmro⟩ := err_cls T
    obtain ⟨f1, f2, f3, f4⟩ := hf f (List.mem_cons_self ..)
    refine wpAny_execs_cons (plainObj_wpAny_Assign_Attribute (ldE hk f1 f2 hns f3 (ldE hk hself (by decide) hns hm0 ?_)) (by rfl))
    have hd' := hd
    obtain ⟨oD, es, ep, hoD, _⟩ := id hd'
    obtain ⟨hp, g, d, t, os⟩ := s
    refine set_plain X (ox := { cls := .ref C, dict := some dx, data := .fields #[.ref t0, .none, .none, .none, .bool false, .none] }) (od := some oD) ⟨hx, rfl, rfl, hoD⟩ T.sa ?_
    refine PySem.OEX.osa_old X hx hd (lk_in fs) (by rw [List.length_map]; have : fs.length + (fl.length + 1) ≤ 900 := hl; omega) hcd hmro hdct f4 (fun h' tk' k hn => ?_)
    have hn' : h'.Ns1 dx (lk ((f, val f) :: fs)) := by rw [lk_more]; exact hn
    have kK : K.In h' := fun b o e => k b o (fun z => by rw [z, hKd] at e; cases e) (X b o e)
    refine ih ((f, val f) :: fs) _ Q (by have : fs.length + (fl.length + 1) ≤ 900 := hl; show fs.length + 1 + fl.length ≤ 900; omega) (fun g' hg' => hf g' (List.mem_cons_of_mem _ hg')) kK hKd ?_ (k _ _ hxd hx) hxd hn' (fun h2 tk2 k2 e2 n2 => ?_)
    · obtain ⟨o, es2, ep2, ho, r2⟩ := hns
      exact ⟨o, es2, ep2, k _ o xL ho, r2⟩
    · refine hq h2 tk2 (fun b o hb e => k2 b o hb (k b o hb e)) e2 ?_
      rw [List.map_cons, List.reverse_cons, List.append_assoc]
      exact n2
end
end ErrA

namespace ErrA
open PySem PySem.W PySem.Calls PyProof.Rows PySem.HandSPX
theorem look_mem {β : Type} {f : Str} {v : β} : ∀ {l : List (Str × β)}, (l.map (·.1)).Nodup → (f, v) ∈ l → l.lookup f = some v
  | [], _, h => nomatch h
  | (g, u) :: r, hn, h => by
    rw [List.map_cons, List.nodup_cons] at hn
    rcases List.mem_cons.mp h with e | e
    · cases e
      simp [List.lookup]
    · have ne : f ≠ g := fun z => hn.1 (by rw [← z]; exact List.mem_map.mpr ⟨_, e, rfl⟩)
      have e2 : (f == g) = false := by simpa using ne
      simp only [List.lookup, e2]
      exact look_mem hn.2 e
theorem zip_fst {α β : Type} : ∀ {xs : List α} {ys : List β}, xs.length = ys.length → (xs.zip ys).map (·.1) = xs
  | [], _, _ => by simp
  | _ :: _, [], h => by simp at h
  | x :: xs, y :: ys, h => by
    rw [List.zip_cons_cons, List.map_cons, zip_fst (by simpa using h)]
theorem zip_look {names : List Str} {us : List Value} (hn : names.Nodup) (hl : names.length = us.length) {f : Str} {v : Value} (h : (f, v) ∈ names.zip us) : (names.zip us).reverse.lookup f = some v := by
  refine look_mem ?_ (List.mem_reverse.mpr h)
  rw [List.map_reverse, zip_fst hl]
  exact List.pairwise_reverse.mpr (List.Pairwise.imp (fun h => Ne.symm h) hn)
/-- the parameter's value -/
def val (names : List Str) (us : List Value) (f : Str) : Value := ((names.zip us).reverse.lookup f).getD .none
theorem val_look {names : List Str} {us : List Value} (hl : names.length = us.length) {f : Str} (h : f ∈ names) (hn : names.Nodup) : (names.zip us).reverse.lookup f = some (val names us f) := by
  obtain ⟨p, hp, e⟩ : ∃ p ∈ names.zip us, p.1 = f := by
    have h2 : f ∈ (names.zip us).map (·.1) := by rw [zip_fst hl]; exact h
    obtain ⟨p, hp, e⟩ := List.mem_map.mp h2
    exact ⟨p, hp, e⟩
  obtain ⟨g, v⟩ := p
  cases e
  unfold val
  rw [zip_look hn hl hp]
  rfl
/-- the fields that are left, the newest first -/
def flds (names : List Str) (us : List Value) (fl : List Str) : List (Str × Value) := (fl.map fun f => (f, val names us f)).reverse
section
variable {P : Program} {w : World} {K : Frag} {mg : Str → Option Value} {base : Heap} {C fI cc cda : Addr} {qual : Str} {st : Stmt} {A : Around} {E : Value → Shared → Prop} {R : Result → Shared → Prop}
/-- the text of such an __init__ -/
structure ErrBody (P : Program) (st : Stmt) (f : Str) (fl : List Str) : Prop where
  ex : ∃ (p0 p1 p2 p3 p4 p5 q1 q2 q3 q4 : Pos) (msg : Str) (kk : Nat) (r : List Stmt), ErrScope P st (f :: fl) p0 p1 p2 p3 p4 msg kk ∧ Sets r fl ∧
    L2.defBody st = .Expr (.Call (.Attribute (.Call (.Name "super" p0) [] [] p1) "__init__" p2) [.Constant (.str msg) kk p3] [] p4) p5 :: .Assign [.Attribute (.Name "self" q1) f q2] (.Name f q3) q4 :: r
  nd : (("self" : Str) :: f :: fl).Nodup
  bind : ∀ (qual : Str) (kV doc pm : Value) (an : Option Addr) (ct : Value) (cda cc : Addr) (us : List Value), us.length = fl.length + 2 →
    bindArgs (ksFn "__init__" qual (L2.defArgs st) (L2.defBody st) (L2.defScope st) .none kV doc pm an (.ref cda) ct cc) ⟨us, []⟩ = pure ((("self" : Str) :: f :: fl).zip us)
  few : fl.length ≤ 100
/-- what such an __init__ leaves of a fresh exception at x -/
structure ErrEnd (h h' : Heap) (x C dx : Addr) (fs : List (Str × Value)) : Prop where
  keep : ∀ b o, b ≠ x → h.get? b = some o → h'.get? b = some o
  obj : ∃ t0 : Addr, h'.get? x = some { cls := .ref C, dict := some dx, data := .fields #[.ref t0, .none, .none, .none, .bool false, .none] }
  dbig : h.objs.size ≤ dx
  dne : dx ≠ x
  ns : h'.Ns1 dx (lk fs)
theorem err_init {f : Str} {fl : List Str} (T : ErrTxt P K C fI cc cda qual st) (B : ErrBody P st f fl) (G : Gnd K mg base) {x t0 : Addr} {vs : List Value} {s : Shared} (noF : ∀ g ∈ f :: fl, findIn K (.ref C) g = some none)
    (kb : ∀ b o, base.get? b = some o → s.heap.get? b = some o) (hx : s.heap.get? x = some (excO C t0)) (hnx : K.lookup x = none) (hroom : A.depth < recursionLimit) (hl : vs.length = fl.length + 1)
    (hq : ∀ h' tk dx, ErrEnd s.heap h' x C dx (flds (("self" : Str) :: f :: fl) (.ref x :: vs) (f :: fl)) → R (.ok (.ret .none)) { s with heap := h', toks := tk }) :
    codeAny (model P w) A (.call (.ref fI) ⟨.ref x :: vs, []⟩) R s := by
  obtain ⟨p0, p1, p2, p3, p4, p5, q1, q2, q3, q4, msg, kk, r, S, hs, hbody⟩ := B.ex
  obtain ⟨oc, od, kV, doc, pm, an, ct, osl, hfn⟩ := id T.fn
  obtain ⟨cd, hcd, hdct, hmro⟩ := err_cls T
  have X : K.In s.heap := G.kin.keeps kb
  have hus : (("self" : Str) :: f :: fl).length = (Value.ref x :: vs).length := by simp [hl]
  have look : ∀ g ∈ ("self" : Str) :: f :: fl, ((("self" : Str) :: f :: fl).zip (Value.ref x :: vs)).reverse.lookup g = some (val (("self" : Str) :: f :: fl) (.ref x :: vs) g) := fun g hg => val_look hus hg B.nd
  have hself : ((("self" : Str) :: f :: fl).zip (Value.ref x :: vs)).reverse.lookup ("self" : Str) = some (.ref x) := zip_look B.nd hus (by rw [List.zip_cons_cons]; exact List.mem_cons_self ..)
  refine ks_codeAny_call_defAt (fd := ksFn "__init__" qual (L2.defArgs st) (L2.defBody st) (L2.defScope st) .none kV doc pm an (.ref cda) ct cc) (body := L2.defBody st) (binds := (("self" : Str) :: f :: fl).zip (Value.ref x :: vs)) hroom (X _ _ hfn) rfl (G.lim.keeps kb) (codeRec_of X T.rec_) rfl
    (BindsTo.of_eq (B.bind _ _ _ _ _ _ _ _ _ (by simp [hl]))) S.kN (fun y hy => ?_) (fun h1 hns k1 => ?_) S.kO S.kG S.kF
  · obtain ⟨n, v⟩ := y
    exact S.kL n (List.of_mem_zip hy).1
  have hxL : s.heap.objs.size ≠ x := Nat.ne_of_gt (Heap.lt_size hx)
  show _root_.PySem.wpAt _ _ (.func (L2.defBody st) (eV qual st s.heap.objs.size fI cda cc)) (execs (L2.defBody st) (eV qual st s.heap.objs.size fI cda cc)) _ _ _
  rw [hbody]
  have L1 : s.heap.objs.size < h1.objs.size := hns.lt
  refine ks_wpAt_execs_cons (super_line T S G (fun b o e => k1 b o (kb b o e)) hns hself (k1 _ _ hx) (fun h2 tk2 t2 k2 e2 => wpAt_of_wpAny ?_))
  have keep2 : ∀ b o, b ≠ x → s.heap.get? b = some o → h2.get? b = some o := fun b o hb e => k2 b o hb (k1 b o e)
  have hns2 : h2.Ns s.heap.objs.size (fun y => ((("self" : Str) :: f :: fl).zip (Value.ref x :: vs)).reverse.lookup y) := by
    obtain ⟨o, es, ep, ho, hr⟩ := hns
    exact ⟨o, es, ep, k2 _ o hxL ho, hr⟩
  have X2 : K.In h2 := fun b o e => keep2 b o (fun z => by rw [z, hnx] at e; cases e) (X b o e)
  refine wpAny_execs_cons (plainObj_wpAny_Assign_Attribute (ldE S.kF (S.kL _ (by simp)) (S.dbg _ (by simp)) hns2 (look f (by simp)) (ldE S.kF (S.kL _ (by simp)) (by decide) hns2 hself ?_)) (by rfl))
  refine set_plain X2 (ox := excO C t2) (od := none) ⟨e2, rfl, rfl, trivial⟩ T.sa ?_
  refine exc_osa X2 e2 hcd hmro hdct (noF f (by simp)) (fun h3 tk3 dx k3 dn dne hx3 hn3 => ?_)
  have L2' : s.heap.objs.size < h2.objs.size := hns2.lt
  have dL : s.heap.objs.size ≠ dx := Nat.ne_of_lt (Nat.lt_of_lt_of_le L2' dn)
  have hK3 : K.In h3 := fun b o e => k3 b o (fun z => by rw [z, hnx] at e; cases e) (X2 b o e)
  have hKd : K.lookup dx = none := by
    cases e : K.lookup dx with
    | none => rfl
    | some o => exact absurd (Nat.lt_of_lt_of_le (Heap.lt_size (X2 _ _ e)) dn) (Nat.lt_irrefl _)
  have hns3 : h3.Ns s.heap.objs.size (fun y => ((("self" : Str) :: f :: fl).zip (Value.ref x :: vs)).reverse.lookup y) := by
    obtain ⟨o, es, ep, ho, hr⟩ := hns2
    exact ⟨o, es, ep, k3 _ o hxL ho, hr⟩
  have hn3' : h3.Ns1 dx (lk [(f, val (("self" : Str) :: f :: fl) (.ref x :: vs) f)]) := by rw [lk_more]; exact hn3
  refine sets_old T (val (("self" : Str) :: f :: fl) (.ref x :: vs)) S.kF (S.kL _ (by simp)) hself dL hs [(f, _)] _ _ (by have := B.few; show 1 + fl.length ≤ 900; omega)
    (fun g hg => ⟨S.kL g (by simp [hg]), S.dbg g (by simp [hg]), look g (by simp [hg]), noF g (by simp [hg])⟩) hK3 hKd hns3 hx3 (Ne.symm dne) hn3' (fun h4 tk4 k4 e4 n4 => ?_)
  refine hq h4 tk4 dx ⟨fun b o hb e => ?_, ⟨_, e4⟩, Nat.le_of_lt (Nat.lt_of_lt_of_le L2' dn), dne, ?_⟩
  · have bs : b < s.heap.objs.size := Heap.lt_size e
    exact k4 b o (fun z => absurd (Nat.lt_of_lt_of_le (Nat.lt_trans bs L2') dn) (by rw [z]; exact Nat.lt_irrefl _)) (k3 b o hb (keep2 b o hb e))
  · unfold flds
    rw [List.map_cons, List.reverse_cons]
    exact n4
end
end ErrA

namespace ErrA
open PySem PySem.W PySem.Calls PyProof.Rows PySem.HandSPX
theorem val_zip {names : List Str} {us : List Value} : ∀ {fl : List Str} {vs : List Value}, fl.length = vs.length → (∀ p ∈ fl.zip vs, val names us p.1 = p.2) → (fl.map fun f => (f, val names us f)) = fl.zip vs
  | [], _, _, _ => by simp
  | _ :: _, [], h, _ => by simp at h
  | f :: fl, v :: vs, h, hv => by
    rw [List.map_cons, List.zip_cons_cons, val_zip (by simpa using h) (fun p hp => hv p (by rw [List.zip_cons_cons]; exact List.mem_cons_of_mem _ hp)), hv (f, v) (by rw [List.zip_cons_cons]; exact List.mem_cons_self ..)]
theorem flds_zip {n0 : Str} {x : Value} {fl : List Str} {vs : List Value} (hn : (n0 :: fl).Nodup) (hl : fl.length = vs.length) : flds (n0 :: fl) (x :: vs) fl = (fl.zip vs).reverse := by
  unfold flds
  rw [val_zip hl fun p hp => ?_]
  obtain ⟨f, v⟩ := p
  unfold val
  rw [zip_look (v := v) hn (by simp [hl]) (by rw [List.zip_cons_cons]; exact List.mem_cons_of_mem _ hp)]
  rfl
section
variable {P : Program} {w : World} {K : Frag} {mg : Str → Option Value} {base : Heap} {C fI cc cda : Addr} {qual : Str} {st : Stmt} {A : Around} {E : Value → Shared → Prop} {R : Result → Shared → Prop}
/-- a made exception -/
structure ErrMade (h h' : Heap) (e C d : Addr) (fs : List (Str × Value)) : Prop where
  keep : ∀ b o, h.get? b = some o → h'.get? b = some o
  new : h.objs.size ≤ e
  obj : ∃ t0 : Addr, h'.get? e = some { cls := .ref C, dict := some d, data := .fields #[.ref t0, .none, .none, .none, .bool false, .none] }
  dbig : h.objs.size ≤ d
  dne : d ≠ e
  ns : h'.Ns1 d (lk fs)
theorem err_made {f : Str} {fl : List Str} (T : ErrTxt P K C fI cc cda qual st) (B : ErrBody P st f fl) (G : Gnd K mg base) {vs : List Value} {s : Shared} (noF : ∀ g ∈ f :: fl, findIn K (.ref C) g = some none)
    (kb : ∀ b o, base.get? b = some o → s.heap.get? b = some o) (hroom : A.depth + 1 < recursionLimit) (hl : vs.length = fl.length + 1)
    (hq : ∀ h' tk e d, ErrMade s.heap h' e C d (((f :: fl).zip vs).reverse) → R (.ok (.ret (.ref e))) { s with heap := h', toks := tk }) :
    codeAny (model P w) A (.call (.ref C) ⟨vs, []⟩) R s := by
  obtain ⟨nm, q, N, bs, bm, sn, sub, ab, col, dd, k0, k1, k2, k3, k5, hC, hbm⟩ := T.cls
  have X : K.In s.heap := G.kin.keeps kb
  obtain ⟨hp, g, dr, tk, os⟩ := s
  have k : ∀ b o, hp.get? b = some o → ((hp.push (kdv_tup vs)).push (excO C hp.objs.size)).get? b = some o := fun b o e => Heap.get?_push_of_some _ (Heap.get?_push_of_some _ e)
  have hget : ((hp.push (kdv_tup vs)).push (excO C hp.objs.size)).get? (hp.objs.size + 1) = some (excO C hp.objs.size) := by heap_get
  have hnx : K.lookup (hp.objs.size + 1) = none := by
    cases e : K.lookup (hp.objs.size + 1) with
    | none => rfl
    | some o =>
      have z : hp.get? (hp.objs.size + 1) = some o := X _ _ e
      exact absurd (Nat.lt_of_succ_lt (Heap.lt_size z)) (Nat.lt_irrefl _)
  have hsz : vs.length ≤ sizeLine := by
    rw [hl, sizeLine_eq]
    have := B.few
    omega
  refine call_own PySem.F.excBase_ValueError (fun Y => refsVE_contains Y bm hbm) (X _ _ hC) (looks_findIn X T.iC) (fun self => bind_fn X self T.tI) hsz ?_
  refine err_init (s := ⟨(hp.push (kdv_tup vs)).push (excO C hp.objs.size), g, dr, tk, os⟩) T B G noF (fun b o e => k b o (kb b o e)) hget hnx ?_ hl fun h' tk' dx ⟨k', hx, dn, dne, hns⟩ => ?_
  · show A.depth + 1 < recursionLimit
    exact hroom
  · rw [flds_zip B.nd (by simp [hl])] at hns
    have old : ∀ b o, hp.get? b = some o → h'.get? b = some o := fun b o e => k' b o (Nat.ne_of_lt (Nat.lt_succ_of_lt (Heap.lt_size e))) (k b o e)
    have z : hp.objs.size + 1 + 1 ≤ dx := by
      first
        | (simpa only [Heap.size_push] using dn)
        | exact dn
    exact ⟨rfl, hq h' tk' (hp.objs.size + 1) dx ⟨old, Nat.le_succ _, hx, Nat.le_trans (Nat.le_trans (Nat.le_succ _) (Nat.le_succ _)) z, dne, hns⟩⟩
end
end ErrA

namespace L2
open PySem PySem.Spec PyProof.Rows
theorem paired_snoc_k {α β : Type} {F : α → β → Prop} {a : α} {b : β} (r : F a b) : ∀ {xs : List α} {ys : List β}, Paired F xs ys → Paired F (xs ++ [a]) (ys ++ [b])
  | _, _, .nil => .cons r .nil
  | _, _, .cons q t => .cons q (paired_snoc_k r t)
theorem paired_rev_k {α β : Type} {F : α → β → Prop} : ∀ {xs : List α} {ys : List β}, Paired F xs ys → Paired F xs.reverse ys.reverse
  | _, _, .nil => .nil
  | _, _, .cons q t => by
    rw [List.reverse_cons, List.reverse_cons]
    exact paired_snoc_k q (paired_rev_k t)
theorem kv_zip : ∀ (fl : List Str) {vs : List V} {us : List Value}, Vals vs us → KV (fl.zip vs) (fl.zip us)
  | [], _, _, _ => by simp; exact .nil
  | _ :: _, _, _, .nil => by simp; exact .nil
  | f :: fl, _, _, .cons r t => by
    rw [List.zip_cons_cons, List.zip_cons_cons]
    exact .cons ⟨rfl, r⟩ (kv_zip fl t)
theorem kv_look (g : Str) : ∀ {l : List (Str × V)} {m : List (Str × Value)}, KV l m → RelO (l.lookup g) (ErrA.lk m g)
  | _, _, .nil => True.intro
  | (f, y) :: l, (f', u) :: m, .cons ⟨e, r⟩ t => by
    have e : f = f' := e
    subst e
    rw [ErrA.lk_more]
    have ih := kv_look g t
    by_cases h : g = f
    · subst h
      simp only [List.lookup, beq_self_eq_true]
      rw [if_pos True.intro]
      exact r
    · have e2 : (g == f) = false := by simpa using h
      simp only [List.lookup, e2]
      rw [if_neg h]
      exact ih
section
variable {X : Cx} {C fI cc cda : Addr} {qual : Str} {st : Stmt} {f : Str} {fl : List Str}
/-- C(e, ..): behind the arguments, for every new d: the error with its own dict at d -/
def tMkErr (C : Addr) (f : Str) (fl : List Str) (ta : TA) : St → Hp → XK → Prop := fun σ H Q => ta σ H fun vs H1 => vs.length = fl.length + 1 ∧ ∀ d, H1 d = none → Q (.ref C) (some d) (upd H1 d (.xd ((f :: fl).zip vs).reverse))
theorem pmk_err {a : Expr} {as : List Expr} {ta : TA} {n : Str} {p pos : Pos} {k : Nat} (T : ErrA.ErrTxt X.prog X.K C fI cc cda qual st) (B : ErrA.ErrBody X.prog st f fl) (noF : ∀ g ∈ f :: fl, PySem.W.findIn X.K (.ref C) g = some none) (hr : Room k X.A) (hm : X.mg n = some (.ref C)) (ha : PA X (a :: as) ta) (hg : Gl X n := by rfl)
    (hdb : (n == ("__debug__" : Str)) = false := by decide)
    (he : starEach (a :: as) X.env = (false, eval a X.env) :: starEach as X.env := by rfl) (hpl : (backTo pos (starEach as X.env)).any (·.1) = false := by rfl) :
    PMk X (.Call (.Name n p) (a :: as) [] pos) (tMkErr C f fl ta) := by
  intro pins s σ H Q I h
  refine wpAny_Call_Name_kw (ld_glob I hg hm ?_ hdb)
  refine PySem.W.callWith_K (h₀ := X.base) I.ok.mod.kin T.kC (thn (ha.run pos pins s σ H _ I h) fun us s1 hh => ?_) he hpl
  obtain ⟨vs, H1, I1, r1, hl, q1⟩ := hh
  refine ⟨I1.kIn, ?_⟩
  show wpAny _ _ (call (.ref C) us) _ _ _
  have hbk := I1.bk
  have hlu : us.length = fl.length + 1 := by rw [← Paired.length r1]; exact hl
  obtain ⟨hp, g, dr, tk, os⟩ := s1
  refine wpAny_call (ErrA.err_made T B ⟨I1.mod.kin, I1.mod.glob, I1.mod.blt, I1.mod.nolimit⟩ noF hbk (by have := hr.dp; omega) hlu fun h' tk' e d M => ?_)
  show MkP X pins σ Q (.ref e) ⟨h', g, dr, tk', os⟩
  obtain ⟨t0, hoe⟩ := M.obj
  have hns := M.ns
  obtain ⟨G', g1, g2⟩ := restrict h' fun b => decide (b ≠ e)
  have gk : ∀ b, b ≠ e → G'.get? b = h'.get? b := fun b hb => g1 b (decide_eq_true hb)
  have ge : G'.get? e = none := g2 e (by simp)
  have old : ∀ b o, hp.get? b = some o → G'.get? b = some o := fun b o q => (gk b (Nat.ne_of_lt (Nat.lt_of_lt_of_le (Heap.lt_size q) M.new))).trans (M.keep b o q)
  have ob : ObjOk X.prog X.w (upd H1 d (.xd ((f :: fl).zip vs).reverse)) G' d (.xd ((f :: fl).zip vs).reverse) :=
    ⟨_, hns.at (fun o q => (gk d M.dne).trans q), fun g => kv_look g (paired_rev_k (kv_zip (f :: fl) r1))⟩
  have J : Inv X pins σ (upd H1 d (.xd ((f :: fl).zip vs).reverse)) ⟨G', g, dr, tk', os⟩ := I1.laid (t' := tk') old M.dbig ob
  refine ⟨e, _, _, ⟨G', g, dr, tk', os⟩, _, .ref C, some d, rfl, J, fun b o q => ?_, ge, hoe, ⟨rfl, rfl⟩, rfl, rfl, ?_, rfl, I1.bare, raises_own T.exC T.tyC, q1 d (I1.hok.fresh M.dbig)⟩
  · by_cases hb : b = e
    · have q' : G'.get? b = some o := q
      rw [hb, ge] at q'; cases q'
    · exact (gk b hb).symm.trans q
  · rw [upd_ne (Ne.symm M.dne)]
    exact I1.hok.fresh M.new
/-- raise C(e, ..) -/
def tRaiseErr (C : Addr) (f : Str) (fl : List Str) (W : WX) (ta : TA) : TS := fun _ σ H => tMkErr C f fl ta σ H fun cls d H' => W cls d σ H'
theorem ps_raiseErr {a : Expr} {as : List Expr} {ta : TA} {W : WX} {n : Str} {p pos pos2 : Pos} {k : Nat} (hc : X.calm = true) (T : ErrA.ErrTxt X.prog X.K C fI cc cda qual st) (B : ErrA.ErrBody X.prog st f fl) (noF : ∀ g ∈ f :: fl, PySem.W.findIn X.K (.ref C) g = some none) (hr : Room k X.A) (hm : X.mg n = some (.ref C)) (tk : Takes X W) (ha : PA X (a :: as) ta) (hg : Gl X n := by rfl)
    (hdb : (n == ("__debug__" : Str)) = false := by decide)
    (he : starEach (a :: as) X.env = (false, eval a X.env) :: starEach as X.env := by rfl) (hpl : (backTo pos (starEach as X.env)).any (·.1) = false := by rfl) :
    PS X (.Raise (some (.Call (.Name n p) (a :: as) [] pos)) none pos2) (tRaiseErr C f fl W ta) := ps_raise hc tk (pmk_err T B noF hr hm ha hg hdb he hpl)
end
end L2

set_option Elab.async false
set_option linter.all false
set_option maxRecDepth 100000
set_option maxHeartbeats 2000000
/-! Part B: several clauses «except C as n» -/
namespace L2
open PySem PySem.Spec PyProof.Rows
/-- a clause's class and its suite's reading -/
abbrev Cl := Value × (Addr → Value → Option Addr → TS)
/-- the ends of a suite: the name in slot i is gone behind it -/
def goneD (i : Nat) (D : Ends) : Ends := { nx := fun τ G => D.nx (τ.set i none) G, rt := D.rt, bk := fun τ G => D.bk (τ.set i none) G, ct := fun τ G => D.ct (τ.set i none) G }
/-- what the clauses wish, one behind the other; all of them store in slot i -/
def wClauses (K : PySem.W.Frag) (i : Nat) (Wo : WX) (D : Ends) : List Cl → WX
  | [] => Wo
  | (c, ts) :: more => fun cls d τ G => ∃ yes, PySem.W.exmOne K cls c = some yes ∧ (yes = true → ∀ e, G e = none → ts e cls d (goneD i D) (τ.set i (some (.ref e))) G) ∧ (yes = false → wClauses K i Wo D more cls d τ G)
inductive Clauses (X : Cx) (n : Str) : List ExceptHandler → List Cl → Prop
  | nil : Clauses X n [] []
  | cons {x : Str} {c : Value} {ts : Addr → Value → Option Addr → TS} {s0 : Stmt} {ss : List Stmt} {pa pb : Pos} {hs : List ExceptHandler} {l : List Cl} (nm : Names X x c)
      (su : ∀ (e : Addr) (oe : Obj) (cls : Value) (d : Option Addr) (pn : List (Addr × Obj)), Zc cls d oe → (∃ vs, oe.data = .fields vs) → PSs (X.suite e ((e, oe) :: pn)) (s0 :: ss) (ts e cls d)) (more : Clauses X n hs l) :
      Clauses X n (.ExceptHandler (some (.Name x pa)) (some n) (s0 :: ss) pb :: hs) ((c, ts) :: l)
section
variable {X : Cx} {n : Str} {i : Nat} {body : List Stmt} {hd : ExceptHandler} {hs : List ExceptHandler} {l : List Cl} {pos : Pos} {tb : WX → TS} {Wo : WX}
/-- an end of the suite: the name goes, the frame is ours again -/
theorem suite_end {pins : List (Addr × Obj)} {D : Ends} {ok : X.Ok} {e : Addr} {q : Addr × Obj} {fl : Flow} {s6 : Shared} {pb : Pos} (hN : X.N.Nodup) (hi : X.N[i]? = some n) (hln : X.env.kindOf n = some .local)
    (h : SP (X.suite e (q :: (X.pn ++ pins))) [] (goneD i D) fl s6) :
    wpAny (model X.prog X.w) X.A (do bindName X.env n .none; unbindBehindTheSuite X.env n pb) (fun _ s7 => SP X pins D fl s7) X.xe s6 := by
  cases fl with
  | ret u =>
    obtain ⟨v, τ, G, J, r, z⟩ := h
    refine gone_ok (J.unsuite ok) hN hi hln fun s7 J7 => ?_
    exact ⟨v, _, _, J7, r, z⟩
  | next =>
    obtain ⟨τ, G, J, z⟩ := h
    refine gone_ok (J.unsuite ok) hN hi hln fun s7 J7 => ?_
    exact ⟨_, _, J7, z⟩
  | brk =>
    obtain ⟨τ, G, J, z⟩ := h
    refine gone_ok (J.unsuite ok) hN hi hln fun s7 J7 => ?_
    exact ⟨_, _, J7, z⟩
  | cont =>
    obtain ⟨τ, G, J, z⟩ := h
    refine gone_ok (J.unsuite ok) hN hi hln fun s7 J7 => ?_
    exact ⟨_, _, J7, z⟩
theorem ps_try_clauses (hst : X.stack = X.env :: X.outer) (hfr : X.env.frame = some X.env.locals) (hN : X.N.Nodup) (hi : X.N[i]? = some n) (hln : X.env.kindOf n = some .local) (tk : Takes X Wo)
    (hb : ∀ (W : WX) (pn : List (Addr × Obj)) (xe : Value → Shared → Prop), Takes (X.tr pn xe) W → PassesOwn (model X.prog X.w) X.A X.env xe → PSs (X.tr pn xe) body (tb W))
    (hh : Clauses X n (hd :: hs) l) : PS X (.Try body (hd :: hs) [] [] pos) (fun D σ H => tb (wClauses X.K i Wo D l) D σ H) := by
  constructor
  intro pins s σ H D I start
  have ok := I.ok
  have frs_ : X.A.frames = some (X.env :: X.outer) := ok.frames.trans (by rw [hst])
  refine wpAny_Try_except ?_
  have run := (hb (wClauses X.K i Wo D l) (X.pn ++ pins) (fun ev t1 => wpAny (model X.prog X.w) X.A (noteFrame ev X.env) (fun _ t2 => wpAny (model X.prog X.w) X.A (setFlight ev none)
    (fun _ t3 => wpAny (model X.prog X.w) X.A (handleBy ev X.env (hd :: hs)) (SP X pins D) X.xe t3) X.xe t2) X.xe t1) (fun u t xx => ?_) PassesOwn.looking).run [] s σ H D (I.toTry _) start
  · refine wpAny_mono run (fun f t z => ?_) (fun ev t z => z)
    cases f with
    | ret u =>
      obtain ⟨v, τ, G, J, r, q⟩ := z
      exact ⟨v, τ, G, J.ofTry ok, r, q⟩
    | next =>
      obtain ⟨τ, G, J, q⟩ := z
      exact wpAny_execs_nil ⟨τ, G, J.ofTry ok, q⟩
    | brk =>
      obtain ⟨τ, G, J, q⟩ := z
      exact ⟨τ, G, J.ofTry ok, q⟩
    | cont =>
      obtain ⟨τ, G, J, q⟩ := z
      exact ⟨τ, G, J.ofTry ok, q⟩
  obtain ⟨e, B, t0, pins0, τ, G, cls, d, rfl, J0, ground, up, sky, ne, eos, bare, wish⟩ := xx
  have J : Inv X pins τ G t0 := J0.ofTry ok
  have sky2 : Sky B (X.env :: X.outer) e (Zc cls d) X.env.locals t.heap := by
    rw [← hst]
    exact sky
  show wpAny (model X.prog X.w) X.A (noteFrame (.ref e) X.env) _ _ _
  refine Sky.land Zc.steady frs_ hfr sky2 fun g3 fly3 up3 => ?_
  have up03 := up.trans up3
  have J3 : Inv X pins τ G { t with heap := g3 } := J.landed ground fly3.1 up03 eos bare
  obtain ⟨o3, v3, get3, z3, d3⟩ := fly3.there
  have out : e ∉ frs (X.env :: X.outer) := fun m => by
    obtain ⟨_, o', e', no⟩ := fly3.2.2.1.mem m
    rw [get3] at e'
    cases e'
    exact no _ d3
  have outL : e ≠ X.env.locals := fun z => out (List.mem_filterMap.mpr ⟨X.env, List.mem_cons_self, by rw [hfr, z]⟩)
  have outF : e ∉ X.fs := fun m => by
    obtain ⟨env', he', q⟩ := List.mem_filterMap.mp m
    exact out (List.mem_filterMap.mpr ⟨env', List.mem_cons_of_mem _ he', q⟩)
  have S3 := J3.suite get3 d3 ne outL outF
  have main : ∀ {hs' : List ExceptHandler} {l' : List Cl}, Clauses X n hs' l' → wClauses X.K i Wo D l' cls d τ G → wpAny (model X.prog X.w) X.A (handleBy (.ref e) X.env hs') (SP X pins D) X.xe { t with heap := g3 } := by
    intro hs' l' c
    induction c with
    | nil =>
      intro w
      refine wpAny_handleBy_nil ?_
      obtain ⟨_, _, _, oe, vs, T, oT, ts', he, _, hdt, h1, _⟩ := id fly3
      have fin : wpAny (model X.prog X.w) X.A (setFlight (.ref e) X.env.frame) (fun _ t4 => wpAny (model X.prog X.w) X.A (throw (.ref e) : Sem Flow) (SP X pins D) X.xe t4) X.xe { t with heap := g3 } := by
        rw [hfr]
        refine HandSPX.setFlight_upZ fly3 fun g4 held4 up4 => wpAny_throw (tk _ _ ⟨e, B, t0, pins, τ, G, cls, d, rfl, J, ground, up03.trans up4, .inr (.inr ?_), ne, eos, bare, w⟩)
        rw [hst]
        exact held4
      unfold PySem.passOn
      refine wpAny_bind (wpAny_field he hdt h1 ?_)
      have notNone : ¬ ((Value.ref T == Value.none) = true) := by simp
      rw [if_neg notNone]
      first
        | exact wpAny_bind fin
        | exact wpAny_bind (wpAny_pure (wpAny_bind fin))
    | @cons x c ts s0 ss pa pb hs2 l2 nm su more ih =>
      intro w
      obtain ⟨yes, hy, w1, w0⟩ := w
      refine wpAny_handleBy_cons (codeAny_handlers_test ?_) (by intro q; cases q)
      have ty : PySem.W.Looks (model X.prog X.w) g3 (typeOf (.ref e)) cls := fun A Q E s k q => wpAny_typeOf_ref (k _ _ get3) (by rw [z3.1]; exact q)
      have mt := PySem.W.exm_one (M := model X.prog X.w) (J3.kIn) ty hy
      have named : ∀ {Q : Value → Shared → Prop} {E : Value → Shared → Prop}, Q c { t with heap := g3 } → wpAny (model X.prog X.w) (X.A.mark (some (.ref e))) (eval (.Name x pa) X.env) Q E { t with heap := g3 } := by
        intro Q E q
        obtain ⟨hg, hdbg, inMod | ⟨notIn, isB, notName⟩⟩ := nm
        · exact ld_glob (X := X.suite e ((e, o3) :: (X.pn ++ pins))) S3 hg inMod q hdbg
        · exact ld_blt (X := X.suite e ((e, o3) :: (X.pn ++ pins))) S3 hg notIn isB q notName hdbg
      refine named (mt.here ?_)
      cases yes with
      | false => exact ih (w0 rfl)
      | true =>
        refine codeAny_handlers_suite_as (HandSPX.lands_againZ fly3 fun g4 fly4 up4 => ?_)
        have J4 : Inv X pins τ G { t with heap := g4 } := J.landed ground fly4.1 (up03.trans up4) eos bare
        obtain ⟨o4, v4, get4, z4, d4⟩ := fly4.there
        refine store_ok (X := X.suite e ((e, o4) :: (X.pn ++ pins))) (v := .ref e) (J4.suite get4 d4 ne outL outF) hN hi (.inl hln) rfl (fun s5 S5 => ?_) (.inr hln)
        refine wpAny_mono ((su e o4 cls d (X.pn ++ pins) z4 ⟨_, d4⟩).run [] s5 _ G _ S5 (w1 rfl e ne)) (fun fl s6 z => ?_) (fun _ _ z => False.elim z)
        have fin := suite_end (ok := ok) (pb := pb) hN hi hln z
        cases fl <;> exact fin
  exact main hh wish
end
end L2

set_option Elab.async false
set_option linter.all false
set_option maxRecDepth 100000
set_option maxHeartbeats 2000000
/-! Part C: a def that gets the handled exception, called in an except suite; isinstance of it -/
namespace L2
open PySem PySem.Spec PyProof.Rows
/-- a promise that speaks of the handled exception: its address, its class, its own dict -/
abbrev SpP := Addr → Value → Option Addr → Sp
structure FnPin (P : Program) (w : World) (K : PySem.W.Frag) (mg : Str → Option Value) (base : Heap) (k : Nat) (f : Addr) (fd : FuncData) (ps : List Str) (sp : SpP) : Prop where
  len : ∀ a cls d vs H Q E, sp a cls d vs H Q E → vs.length = ps.length
  run : ∀ (A : Around) (outer : List Env) (s : Shared) (H : Hp) (args : Args) (us : List Value) (vs : List V) (Q : VK) (E : XK) (p : Addr × Obj) (cls : Value) (d : Option Addr), L2H.RoomH k A → L2H.PinOk outer H s p → Zc cls d p.2 → (∃ xs, p.2.data = .fields xs) → Env0 P w K mg base A outer s H → BindsTo s fd args (ps.zip us) → Vals vs us → sp p.1 cls d vs H Q E →
    codeAny (model P w) A (.call (.ref f) args) (CR CX0 outer P w H s Q E) s
section
variable {P : Program} {w : World} {K : PySem.W.Frag} {mg : Str → Option Value} {base : Heap}
theorem Fun.okPin {x qual : Str} {st : Stmt} {f : Addr} {fd : FuncData} {N ps : List Str} {k : Nat} {sp : SpP} (F : Fun K x qual st f fd) (S : FnScope N ps (defScope st)) (len : ∀ a cls d vs H Q E, sp a cls d vs H Q E → vs.length = ps.length)
    (hbody : ∀ (cdv : Value) (A : Around) (outer : List Env) (s : Shared) (H : Hp) (vs : List V) (Q : VK) (E : XK) (p : Addr × Obj) (cls : Value) (d : Option Addr), Zc cls d p.2 → (∃ xs, p.2.data = .fields xs) → L2H.RoomH k (A.deeper (envOfC qual (defScope st) s.heap.objs.size f cdv)) → sp p.1 cls d vs H Q E →
      ∃ t, PSs (L2H.cxH CX0 P w K mg base N qual (defScope st) f cdv A outer s H E p) (defBody st) t ∧ t { nx := fun _ G => Q .non G, rt := Q } (start N vs) H) : FnPin P w K mg base (k + 1) f fd ps sp := by
  obtain ⟨oc, od, kV, doc, pm, an, cdv, ct, osl, rfl, lk, hcd⟩ := F.ex
  refine ⟨len, fun A outer s H args us vs Q E p cls d room pin hz hf e0 hb rel want => ?_⟩
  have same := len _ _ _ _ _ _ _ want
  have base_in : ∀ b o, base.get? b = some o → s.heap.get? b = some o := fun b o e => (e0.bs b o e).1
  have KX : K.In s.heap := e0.mod.kin.keeps base_in
  have kinds : ∀ y ∈ ps.zip us, (defScope st).names.lookup y.1 = some .local ∨ ((defScope st).names.lookup y.1 = some .cell ∧ ((cellsFrom (s.heap.objs.size + 1) (defScope st).names []).lookup y.1).isSome = true) := by
    intro y hy
    obtain ⟨nm, v⟩ := y
    rcases S.par nm (List.of_mem_zip hy).1 with q | q
    · exact Or.inl q
    · exact Or.inr ⟨q, PySem.W.cellsFrom_some _ _ _ (Or.inl q)⟩
  refine codeAny_call_function room.depth (KX _ _ lk) rfl S.co S.gen rfl (PySem.W.codeRec_of KX hcd) (hb _ _ _ _ ?_)
  refine wpAny_newFunctionEnv_cells S.kind kinds fun env he s1 entered => ?_
  subst he
  refine ⟨(e0.mod.nolimit.keeps base_in).keeps entered.toInCall.keep, codeAny_func ?_⟩
  obtain ⟨t, body, reads⟩ := hbody cdv A outer s H vs Q E p cls d hz hf (room.deeper _) want
  have I : Inv (L2H.cxH CX0 P w K mg base N qual (defScope st) f cdv A outer s H E p) [] (start N vs) H s1 := L2H.inv_startH S pin e0 same rel entered
  refine wpAny_mono (body.run [] s1 (start N vs) H _ I reads) (fun fl s' z => ?_) fun _ _ z => z
  cases fl with
  | ret u =>
    obtain ⟨v, τ, G, J, r, q⟩ := z
    exact ⟨v, G, J.os, J.bare, J.base, J.hok, r, q⟩
  | next =>
    obtain ⟨τ, G, J, q⟩ := z
    exact ⟨V.non, G, J.os, J.bare, J.base, J.hok, rfl, q⟩
  | brk =>
    obtain ⟨_, _, _, q⟩ := z
    exact q.elim
  | cont =>
    obtain ⟨_, _, _, q⟩ := z
    exact q.elim
end
section
variable {X : Cx} {k : Nat} {f : Addr} {fd : FuncData} {ps : List Str} {sp : SpP} {x : Str} {q pos : Pos} {e : Expr} {es : List Expr} {t : TA} {a : Addr} {oe : Obj} {cls : Value} {d : Option Addr}
/-- f(e, ..) in a suite that handles p -/
def tCallPin (sp : SpP) (a : Addr) (cls : Value) (d : Option Addr) (t : TA) : TE := fun σ H Q => t σ H fun vs H1 => sp a cls d vs H1 Q E0
theorem pe_callPin (F : FnPin X.prog X.w X.K X.mg X.base k f fd ps sp) (hr : L2H.RoomH k X.A) (hp : (a, oe) ∈ X.pn) (hz : Zc cls d oe) (hf : ∃ xs, oe.data = .fields xs) (hg : Gl X x) (hm : X.mg x = some (.ref f)) (hk : PySem.W.keepIn X.K (.ref f) = true) (hb : Binds X.K fd ps [])
    (ha : PA X (e :: es) t) (hdb : (x == ("__debug__" : Str)) = false := by decide) (he : starEach (e :: es) X.env = (false, eval e X.env) :: starEach es X.env := by rfl) (hpl : (backTo pos (starEach es X.env)).any (·.1) = false := by rfl) :
    PE X (.Call (.Name x q) (e :: es) [] pos) (tCallPin sp a cls d t) := by
  constructor
  intro pins s σ H Q I h
  refine wpAny_Call_Name_kw (ld_glob I hg hm ?_ hdb)
  refine PySem.W.callWith_K (h₀ := X.base) I.ok.mod.kin hk (thn (ha.run pos pins s σ H _ I h) fun us s1 z => ?_) he hpl
  obtain ⟨vs, H1, I1, rel, want⟩ := z
  refine ⟨I1.kIn, ?_⟩
  have hl : us.length = ps.length := rel.length.symm.trans (F.len _ _ _ _ _ _ _ want)
  have b := hb s1 us I1.kIn (by rw [List.append_nil]; exact hl)
  rw [List.append_nil] at b
  obtain ⟨g1, g2, g3, g4, g5⟩ := I1.pin (a, oe) (List.mem_append_left _ hp)
  have pin : L2H.PinOk X.stack H1 s1 (a, oe) := ⟨g1, g2, fun m => (List.mem_cons.mp (I1.stkSub a m)).elim g3 g4, g5⟩
  refine wpAny_call (codeAny_mono (F.run X.A X.stack s1 H1 ⟨us, []⟩ us vs Q E0 (a, oe) cls d hr pin hz hf I1.env0 b rel want) fun r s' z => ?_)
  cases r with
  | error ev => exact False.elim z
  | ok fl =>
    cases fl with
    | ret u => exact I1.after z
    | next => exact False.elim z
    | brk => exact False.elim z
    | cont => exact False.elim z
end
/-- what isinstance asks of the class of an exception -/
structure ExI (K : PySem.W.Frag) (D : Addr) : Prop where
  cl : (PySem.W.clsIn K D).isSome = true
  ga : PySem.W.findIn K (.ref D) "__getattribute__" = some (some (.builtin "BaseException.__getattribute__"))
  gg : PySem.W.findIn K (.ref D) "__getattr__" = some none
  sb : PySem.W.subIn K (.ref D) (.type "BaseException") = some true
  ca : PySem.W.findIn K (.ref D) "__class__" = some (some (.builtin "object.__class__"))
  gt : PySem.W.specialIn K (.builtin "object.__class__") "__get__" = some (some (.builtin "getset_descriptor.__get__"))
  tk : PySem.W.takesIn K (.builtin "object.__class__") = some true
  mo : PySem.W.mroIn K D (.type "object") = some true
def rIsPin (K : PySem.W.Frag) (a : Addr) (cls : Value) (d : Option Addr) : List V → Hp → VK → Prop := fun xs H Q => ∃ (D dd : Addr) (c : V) (cv : Value) (b : Bool) (fs : List (Str × V)), cls = .ref D ∧ d = some dd ∧ ExI K D ∧
  xs = [.ref a, c] ∧ (∀ u, RelV c u → u = cv) ∧ PySem.W.kitOne K (.ref D) cv = some b ∧ H dd = some (.xd fs) ∧ Q (.bl b) H
theorem call_isPin {X : Cx} {a : Addr} {oe : Obj} {cls : Value} {d : Option Addr} (hp : (a, oe) ∈ X.pn) (hz : Zc cls d oe) (hf : ∃ vs, oe.data = .fields vs) : CallR X (.builtin "isinstance") (rIsPin X.K a cls d) := by
  intro pins s σ H xs us Q I r h
  obtain ⟨D, dd, c, cv, b, fs, rfl, rfl, C, rfl, hcv, e, ed, q⟩ := h
  cases r with
  | cons rx rr =>
    cases rr with
    | cons rt rr =>
      cases rr
      cases rx
      obtain rfl := hcv _ rt
      have hget := (I.pin (a, oe) (List.mem_append_left _ hp)).1
      have hx : ObjOk X.prog X.w H s.heap dd (.xd fs) := I.hok dd _ ed
      obtain ⟨mA, ⟨od, es, ep, hod, _⟩, _⟩ := hx
      obtain ⟨vs, hv⟩ := hf
      have at_ : PySem.W.InstAt s.heap a oe D (some od) := ⟨hget, hz.1, by unfold PySem.W.notCls; rw [hv] <;> rfl, by rw [hz.2]; exact hod⟩
      exact PySem.W.kia_one (PySem.W.kitx_exc C.cl C.ga C.gg C.sb C.ca C.gt C.tk C.mo) I.kIn at_ e (fun z => nomatch z) fun tk => ⟨.bl b, H, I.tok tk, rfl, q⟩
end L2

set_option Elab.async false
set_option linter.all false
set_option maxRecDepth 100000
set_option maxHeartbeats 4000000
/-! Texts, a: words, numbers, terms -/
namespace K15
open PySem L2
def top (i : Nat) : Stmt := PySem.Challenge.pw_tagblocks_k15_whole_block_limits_by_ways.main.body.getD i (.Pass ⟨0, 0, 0, 0⟩)
abbrev PP : Program := PySem.Challenge.pw_tagblocks_k15_whole_block_limits_by_ways
abbrev sAmong : Stmt := top 15
abbrev sLines : Stmt := top 16
abbrev sNum : Stmt := top 17
abbrev sBetw : Stmt := top 17
abbrev sTerm : Stmt := top 18
abbrev sSum : Stmt := top 19
abbrev sComp : Stmt := top 20
abbrev sPart : Stmt := top 21
abbrev sTest : Stmt := top 22
/-! ### what stands in the module -/
structure TxtN (mg : Str → Option Value) : Prop where
  isi : mg "isinstance" = none
  str : mg "str" = none
  len : mg "len" = none
  int : mg "int" = none
  range : mg "range" = none
  tuple : mg "tuple" = none
  list : mg "list" = none
  enumerate : mg "enumerate" = none
  min : mg "min" = none
  fig : ∃ t, mg "MOST_FIGURES" = some (.int 30 t)
  terms : ∃ t, mg "MOST_TERMS" = some (.int 4 t)
  parts : ∃ t, mg "MOST_PARTS" = some (.int 4 t)
/-! ### membership -/
theorem inV_str (w : Str) : ∀ ns : List Str, inV (.str w) (ns.map V.str) = decide (w ∈ ns)
  | [] => by simp [inV]
  | n :: ns => by
    have ih := inV_str w ns
    unfold inV at ih ⊢
    rw [List.map_cons, List.any_cons, ih]
    by_cases h : w = n
    · subst h
      simp [eqV]
    · have h2 : ¬ n = w := fun z => h z.symm
      simp [eqV, h, h2]
theorem flat_str : ∀ ns : List Str, (ns.map V.str).all flatV = true
  | [] => rfl
  | n :: ns => by
    rw [List.map_cons, List.all_cons, flat_str ns]
    rfl
/-! ### the mirrors -/
def numM (w : Str) : Option Int := if (!Txt.isdigit w || decide (30 < w.length)) = true then none else if (decide (1 < w.length) && Txt.startswith w "0") = true then none else intText? w
/-- what is written in figures alone can be read -/
def NumOk (w : Str) : Prop := Txt.isdigit w = true → w.length ≤ 30 → ∃ n, intText? w = some n
def optI : Option Int → V
  | none => .non
  | some n => .int n
def termV (w : Str) (ns : List Str) : Option V := if w ∈ ns then some (.str w) else (numM w).map V.int
def optV : Option V → V
  | none => .non
  | some v => v
/-! ### the promises -/
def spAmong (K : PySem.W.Frag) : Sp := fun vs H Q _ => ∃ (w : Str) (t : Addr) (ns : List Str), vs = [.str w, .ref t] ∧ SqT K H t (ns.map V.str) ∧ Q (.bl (decide (w ∈ ns))) H
def spNum : Sp := fun vs H Q _ => ∃ w : Str, vs = [.str w] ∧ w.length ≤ 1000 ∧ NumOk w ∧ Q (optI (numM w)) H
def spTerm (K : PySem.W.Frag) : Sp := fun vs H Q _ => ∃ (w : Str) (t : Addr) (ns : List Str), vs = [.str w, .ref t] ∧ w.length ≤ 1000 ∧ NumOk w ∧ SqT K H t (ns.map V.str) ∧ Q (optV (termV w ns)) H
section
variable {P : Program} {w : World} {K : PySem.W.Frag} {mg : Str → Option Value} {base : Heap}
theorem scAmong : FnScope ["value", "words"] ["value", "words"] (defScope sAmong) := ⟨rfl, rfl, rfl, by decide +kernel, rfl, by decide +kernel, by decide +kernel⟩
theorem ok_among {f : Addr} {fd : FuncData} (F : Fun K "is_among" "is_among" sAmong f fd) (T : TxtN mg) : FnOk P w K mg base CX0 1 f fd ["value", "words"] (spAmong K) := by
  refine F.ok scAmong (fun vs H Q E h => ?_) (fun cdv A outer s H vs Q E hr h => ?_)
  · obtain ⟨x, t, ns, rfl, _⟩ := h
    rfl
  · obtain ⟨x, t, ns, rfl, ht, k⟩ := h
    refine ⟨_, pss_one (ps_ret (pe_and (pe_callB (id := "isinstance") call_isi (by rfl) T.isi (by decide +kernel) (pa_cons (pv 0) (pa_cons (pe_bltn (v := .ty "str") (by rfl) T.str (by decide +kernel) rfl) pa_nil))) (pe_one (pe_cmpR op_in_seq (pv 0) (pv 1) (by rfl))))), ?_⟩
    refine ⟨_, rfl, .str x, .ty "str", .type "str", .type "str", true, rfl, .ty _, .base (.str _), rfl, _, rfl, ?_⟩
    refine iteT ?_
    refine ⟨_, rfl, _, rfl, t, _, rfl, .inr ht, rfl, flat_str ns, ?_⟩
    rw [if_neg Bool.false_ne_true, inV_str]
    exact k
theorem scNum : FnScope ["word"] ["word"] (defScope sNum) := ⟨rfl, rfl, rfl, by decide +kernel, rfl, by decide +kernel, by decide +kernel⟩
theorem ok_num {f : Addr} {fd : FuncData} (F : Fun K "number_in" "number_in" sNum f fd) (T : TxtN mg) : FnOk P w K mg base CX0 1 f fd ["word"] spNum := by
  obtain ⟨tk, hfig⟩ := T.fig
  refine F.ok scNum (fun vs H Q E h => ?_) (fun cdv A outer s H vs Q E hr h => ?_)
  · obtain ⟨x, rfl, _⟩ := h
    rfl
  · obtain ⟨x, rfl, hx, hok, k⟩ := h
    have hz : x.length ≤ sizeLine := Nat.le_of_lt (small1000 hx)
    refine ⟨_, pss_cons (ps_if (PW.pt (pw_or (pt_not (pt_val (pe_bm0 PySem.F.plainAttrs_str PySem.F.slot_str_isdigit PySem.F.type_str_isdigit mt_isdigit (pv 0)))) (pw_or1 (pt_cmpR op_gt (pe_callB call_len_str (by rfl) T.len PySem.boot_len (pa_cons (pv 0) pa_nil)) (pe_glob (v := .int 30) (by rfl) hfig ⟨tk, rfl⟩) (nomark _))))) (pss_one (ps_ret pe_non)) pss_nil)
      (pss_cons (ps_if (PW.pt (pw_and (pt_cmpR op_gt (pe_callB call_len_str (by rfl) T.len PySem.boot_len (pa_cons (pv 0) pa_nil)) pe_int (nomark _)) (pw_and1 (pt_val (pe_bm PySem.F.plainAttrs_str PySem.F.slot_str_startswith PySem.F.type_str_startswith mt_startswith (pv 0) (pa_cons pe_str pa_nil)))))) (pss_one (ps_ret pe_non)) pss_nil)
      (pss_one (ps_ret (pe_callTy call_int_str (by rfl) T.int (by decide +kernel) (pa_cons (pv 0) pa_nil))))), ?_⟩
    refine ⟨_, rfl, rfl, x, rfl, rfl, True.intro, _, rfl, ?_⟩
    cases e1 : Txt.isdigit x with
    | false =>
      refine ite2 (fun _ => ?_) (fun z => absurd rfl z)
      refine iteT ?_
      have : numM x = none := by
        unfold numM
        rw [e1]
        rfl
      rw [this] at k
      exact k
    | true =>
      refine ite2 (fun z => Bool.noConfusion z) (fun _ => ?_)
      refine ⟨_, rfl, x, rfl, hz, _, _, rfl, rfl, _, rfl, ?_⟩
      refine ite2 (fun h30 => ?_) (fun h30 => ?_)
      · have h : (30 : Int) < (x.length : Int) := of_decide_eq_true h30
        have : numM x = none := by
          unfold numM
          rw [e1, decide_eq_true (show 30 < x.length by omega)]
          rfl
        rw [this] at k
        exact k
      · have h : ¬ (30 : Int) < (x.length : Int) := fun z => h30 (decide_eq_true z)
        have hM : numM x = if (decide (1 < x.length) && Txt.startswith x "0") = true then none else intText? x := by
          unfold numM
          rw [e1, decide_eq_false (show ¬ 30 < x.length by omega)]
          rfl
        obtain ⟨n, hn⟩ := hok e1 (by omega)
        have fin : (decide (1 < x.length) && Txt.startswith x "0") = false → Q (.int n) H := fun z => by
          rw [hM, z, if_neg Bool.false_ne_true, hn] at k
          exact k
        have out : (decide (1 < x.length) && Txt.startswith x "0") = true → Q .non H := fun z => by
          rw [hM, if_pos z] at k
          exact k
        refine ⟨_, rfl, x, rfl, hz, _, _, rfl, rfl, _, rfl, ?_⟩
        refine ite2 (fun h1 => ?_) (fun h1 => ?_)
        · have h1' : 1 < x.length := by have := of_decide_eq_true h1; omega
          refine ⟨_, rfl, rfl, x, "0", rfl, rfl, _, rfl, ?_⟩
          refine ite2 (fun h2 => ?_) (fun h2 => ?_)
          · exact out (by rw [h2, decide_eq_true h1']; rfl)
          · exact ⟨_, rfl, x, n, rfl, hn, by omega, fin (by rw [Bool.eq_false_iff.mpr h2, Bool.and_false])⟩
        · have h1' : ¬ 1 < x.length := fun z => h1 (decide_eq_true (by omega))
          exact ⟨_, rfl, x, n, rfl, hn, by omega, fin (by rw [decide_eq_false h1', Bool.false_and])⟩
theorem scTerm : FnScope ["word", "names"] ["word", "names"] (defScope sTerm) := ⟨rfl, rfl, rfl, by decide +kernel, rfl, by decide +kernel, by decide +kernel⟩
theorem ok_term {f fN : Addr} {fd fdN : FuncData} (F : Fun K "term_in" "term_in" sTerm f fd) (T : TxtN mg) (FN : Fun K "number_in" "number_in" sNum fN fdN) (bN : Binds K fdN ["word"] []) (gN : mg "number_in" = some (.ref fN)) : FnOk P w K mg base CX0 2 f fd ["word", "names"] (spTerm K) := by
  have GN : FnOk P w K mg base CX0 1 fN fdN ["word"] spNum := ok_num FN T
  refine F.ok scTerm (fun vs H Q E h => ?_) (fun cdv A outer s H vs Q E hr h => ?_)
  · obtain ⟨x, t, ns, rfl, _⟩ := h
    rfl
  · obtain ⟨x, t, ns, rfl, hx, hok, ht, k⟩ := h
    refine ⟨_, pss_cons (ps_if (pt_cmpR op_in_seq (pv 0) (pv 1) (by rfl)) (pss_one (ps_ret (pv 0))) pss_nil)
      (pss_one (ps_ret (pe_call GN hr rfl gN FN.kp bN .nil pass0 (pa_cons (pv 0) pa_nil)))), ?_⟩
    refine ⟨_, rfl, _, rfl, t, _, rfl, .inr ht, rfl, flat_str ns, ?_⟩
    rw [if_neg Bool.false_ne_true, inV_str]
    refine ⟨_, rfl, ?_⟩
    unfold termV at k
    refine ite2 (fun h => ?_) (fun h => ?_)
    · rw [if_pos (of_decide_eq_true h)] at k
      exact ⟨_, rfl, k⟩
    · rw [if_neg (fun z => h (decide_eq_true z))] at k
      refine ⟨_, rfl, x, rfl, hx, hok, ?_⟩
      cases e : numM x with
      | none =>
        rw [e] at k
        exact k
      | some n =>
        rw [e] at k
        exact k
end
end K15

set_option Elab.async false
set_option linter.all false
set_option maxRecDepth 100000
set_option maxHeartbeats 8000000
/-! Texts, b: sums -/
namespace K15
open PySem L2
def prs : List Str → List (Str × Str)
  | s :: t :: r => (s, t) :: prs r
  | _ => []
theorem prs_get : ∀ (S : List Str) (i : Nat) (s t : Str), S[2 * i]? = some s → S[2 * i + 1]? = some t → (prs S)[i]? = some (s, t)
  | [], i, s, t, h, _ => by simp at h
  | [x], i, s, t, _, h => by simp at h
  | x :: y :: r, 0, s, t, h1, h2 => by
    simp at h1 h2
    simp [prs, h1, h2]
  | x :: y :: r, i + 1, s, t, h1, h2 => by
    have e1 : 2 * (i + 1) = 2 * i + 1 + 1 := by omega
    have e2 : 2 * (i + 1) + 1 = (2 * i + 1) + 1 + 1 := by omega
    rw [e1] at h1
    rw [e2] at h2
    simp only [List.getElem?_cons_succ] at h1 h2
    simp only [prs, List.getElem?_cons_succ]
    exact prs_get r i s t h1 h2
/-- terms so far -/
abbrev Acc := List (Int × V)
def keyV : V → Key
  | .str x => .inr x
  | .int n => .inl n
  | _ => .inl 0
def usedL : Acc → List (Key × V)
  | [] => []
  | (_, .str x) :: r => (.inr x, .bl true) :: usedL r
  | _ :: r => usedL r
def sgn (s : Str) : Int := if s = "+" then 1 else -1
def sumGo (ns : List Str) : List (Str × Str) → Acc → Option Acc
  | [], acc => some acc
  | (s, t) :: r, acc => match termV t ns with
    | none => none
    | some v => if (decide (s ∈ [("+" : Str), "-"]) && !(valV (usedL acc) (keyV v)).isSome) = true then sumGo ns r (acc ++ [(sgn s, v)]) else none
def sumM (ws ns : List Str) : Option Acc := if ws.length % 2 = 0 ∨ 7 < ws.length then none else sumGo ns (prs (("+" : Str) :: ws)) []
def datV : V → PyData
  | .str x => .str x
  | .int n => .int n
  | _ => .none
def sumD (acc : Acc) : PyData := .tuple (acc.map fun p => .tuple [.int p.1, datV p.2])
mutual
/-- data of tuples, texts and numbers alone -/
inductive TDp (K : PySem.W.Frag) (H : Hp) : V → PyData → Prop
  | non : TDp K H .non .none
  | bl (b : Bool) : TDp K H (.bl b) (.bool b)
  | int (i : Int) : TDp K H (.int i) (.int i)
  | str (x : Str) : TDp K H (.str x) (.str x)
  | tup {a : Addr} {xs : List V} {ds : List PyData} : SqT K H a xs → TDpAll K H xs ds → TDp K H (.ref a) (.tuple ds)
inductive TDpAll (K : PySem.W.Frag) (H : Hp) : List V → List PyData → Prop
  | nil : TDpAll K H [] []
  | cons {v : V} {vs : List V} {d : PyData} {ds : List PyData} : TDp K H v d → TDpAll K H vs ds → TDpAll K H (v :: vs) (d :: ds)
end
/-- the tuples are kept -/
def Tk (H H' : Hp) : Prop := ∀ (K : PySem.W.Frag) (a : Addr) (xs : List V), SqT K H a xs → SqT K H' a xs
theorem Same.tk {H H' : Hp} (s : Same H H') : Tk H H' := fun K a xs h => by
  rcases h with (h | ⟨o, h⟩) | h
  · exact .inl (.inl (s _ _ h))
  · exact .inl (.inr ⟨o, s _ _ h⟩)
  · exact .inr h
theorem Tk.trans {H H1 H2 : Hp} (a : Tk H H1) (b : Tk H1 H2) : Tk H H2 := fun K p xs h => b K p xs (a K p xs h)
/-- a list or a dict is written -/
theorem Tk.write {H : Hp} {a : Addr} {o u : HO} (ha : H a = some u) (h1 : ∀ xs, u ≠ .tup xs := by intro _ z; cases z) (h2 : ∀ ob y, u ≠ .frz ob y := by intro _ _ z; cases z) : Tk H (upd H a o) := fun K b xs h => by
  rcases h with (h | ⟨ob, h⟩) | h
  · exact .inl (.inl (by rw [upd_ne (fun z => h1 _ (by rw [z] at h; exact Option.some.inj (ha.symm.trans h)))]; exact h))
  · exact .inl (.inr ⟨ob, by rw [upd_ne (fun z => h2 _ _ (by rw [z] at h; exact Option.some.inj (ha.symm.trans h)))]; exact h⟩)
  · exact .inr h
mutual
theorem TDp.keep {K : PySem.W.Frag} {H H' : Hp} (t : Tk H H') : ∀ {v : V} {d : PyData}, TDp K H v d → TDp K H' v d
  | _, _, .non => .non
  | _, _, .bl b => .bl b
  | _, _, .int i => .int i
  | _, _, .str x => .str x
  | _, _, .tup h r => .tup (t K _ _ h) (TDpAll.keep t r)
theorem TDpAll.keep {K : PySem.W.Frag} {H H' : Hp} (t : Tk H H') : ∀ {vs : List V} {ds : List PyData}, TDpAll K H vs ds → TDpAll K H' vs ds
  | _, _, .nil => .nil
  | _, _, .cons h r => .cons (TDp.keep t h) (TDpAll.keep t r)
end
theorem TDpAll.snoc {K : PySem.W.Frag} {H : Hp} {v : V} {d : PyData} (h : TDp K H v d) : ∀ {vs : List V} {ds : List PyData}, TDpAll K H vs ds → TDpAll K H (vs ++ [v]) (ds ++ [d])
  | _, _, .nil => .cons h .nil
  | _, _, .cons h1 r => .cons h1 (TDpAll.snoc h r)
theorem TDpAll.len {K : PySem.W.Frag} {H : Hp} : ∀ {vs : List V} {ds : List PyData}, TDpAll K H vs ds → vs.length = ds.length
  | _, _, .nil => rfl
  | _, _, .cons _ r => congrArg (· + 1) (TDpAll.len r)
def SumV (K : PySem.W.Frag) (H : Hp) (v : V) : Option Acc → Prop
  | none => v = .non
  | some acc => v ≠ .non ∧ TDp K H v (sumD acc)
def spSum (K : PySem.W.Frag) : Sp := fun vs H Q _ => ∃ (a t : Addr) (ws ns : List Str), vs = [.ref a, .ref t] ∧ SqL K H a (ws.map V.str) ∧ SqT K H t (ns.map V.str) ∧ (∀ w ∈ ws, w.length ≤ 1000 ∧ NumOk w) ∧ ws.length ≤ 1000 ∧
  ∀ (v : V) (H' : Hp), Same H H' → SumV K H' v (sumM ws ns) → Q v H'
theorem usedL_add (acc : Acc) (s : Int) : ∀ v : V, usedL (acc ++ [(s, v)]) = usedL acc ++ usedL [(s, v)] := by
  intro v
  induction acc with
  | nil => rfl
  | cons p r ih =>
    obtain ⟨q, x⟩ := p
    cases x <;> simp [usedL, ih]
theorem usedL_len : ∀ acc : Acc, (usedL acc).length ≤ acc.length
  | [] => Nat.le_refl _
  | (_, .str x) :: r => Nat.succ_le_succ (usedL_len r)
  | (_, .non) :: r => Nat.le_succ_of_le (usedL_len r)
  | (_, .bl _) :: r => Nat.le_succ_of_le (usedL_len r)
  | (_, .int _) :: r => Nat.le_succ_of_le (usedL_len r)
  | (_, .byt _) :: r => Nat.le_succ_of_le (usedL_len r)
  | (_, .flt _) :: r => Nat.le_succ_of_le (usedL_len r)
  | (_, .ref _) :: r => Nat.le_succ_of_le (usedL_len r)
  | (_, .ty _) :: r => Nat.le_succ_of_le (usedL_len r)
/-- a term is a name or a number -/
def IsTerm (v : V) : Prop := (∃ x, v = .str x) ∨ ∃ n, v = .int n
theorem term_is {t : Str} {ns : List Str} {v : V} (h : termV t ns = some v) : IsTerm v := by
  unfold termV at h
  split at h
  · cases h
    exact .inl ⟨_, rfl⟩
  · cases e : numM t with
    | none => rw [e] at h; cases h
    | some n =>
      rw [e] at h
      cases h
      exact .inr ⟨_, rfl⟩
/-- the terms' tuples stand -/
def TupAt (H : Hp) : List Addr → Acc → Prop := Paired fun t p => H t = some (.tup [.int p.1, p.2]) ∧ IsTerm p.2
theorem TupAt.keep {H H' : Hp} (s : Same H H') : ∀ {ts : List Addr} {acc : Acc}, TupAt H ts acc → TupAt H' ts acc
  | _, _, .nil => .nil
  | _, _, .cons h r => .cons ⟨s _ _ h.1, h.2⟩ (TupAt.keep s r)
theorem TupAt.snoc {H : Hp} {t : Addr} {p : Int × V} (h : H t = some (.tup [.int p.1, p.2]) ∧ IsTerm p.2) : ∀ {ts : List Addr} {acc : Acc}, TupAt H ts acc → TupAt H (ts ++ [t]) (acc ++ [p])
  | _, _, .nil => .cons h .nil
  | _, _, .cons h1 r => .cons h1 (TupAt.snoc h r)
/-- a list or a dict is written: the tuples stand -/
theorem tupW {H : Hp} {a : Addr} {o u : HO} (hu : ∀ xs, u ≠ .tup xs) (ha : H a = some u) : ∀ {ts : List Addr} {acc : Acc}, TupAt H ts acc → TupAt (upd H a o) ts acc
  | _, _, .nil => .nil
  | _, _, .cons h r => .cons ⟨by rw [upd_ne (fun z => hu _ (by rw [z] at h; exact Option.some.inj (ha.symm.trans h.1)))]; exact h.1, h.2⟩ (tupW hu ha r)
theorem TupAt.len {H : Hp} : ∀ {ts : List Addr} {acc : Acc}, TupAt H ts acc → ts.length = acc.length
  | _, _, .nil => rfl
  | _, _, .cons _ r => congrArg (· + 1) (TupAt.len r)
theorem dat_dp {K : PySem.W.Frag} {H : Hp} {v : V} (h : IsTerm v) : TDp K H v (datV v) := by
  rcases h with ⟨x, rfl⟩ | ⟨n, rfl⟩
  · exact .str x
  · exact .int n
theorem TupAt.dp {K : PySem.W.Frag} {H : Hp} : ∀ {ts : List Addr} {acc : Acc}, TupAt H ts acc → TDpAll K H (ts.map V.ref) (acc.map fun p => .tuple [.int p.1, datV p.2])
  | _, _, .nil => .nil
  | _, _, .cons h r => .cons (.tup (SqT.of h.1) (.cons (.int _) (.cons (dat_dp h.2) .nil))) (TupAt.dp r)
theorem rg2 {m : Nat} (h : m = 1 ∨ m = 3 ∨ m = 5 ∨ m = 7) : RgC 0 ((m : Int) + 1) 2 ((m + 1) / 2) := by
  rcases h with rfl | rfl | rfl | rfl
  all_goals exact ⟨by decide, by decide, by decide +kernel, by decide +kernel⟩
theorem Same.new {H : Hp} {a : Addr} {o : HO} (h : H a = none) : Same H (upd H a o) := fun b u e => by
  rw [upd_ne (ne_of_none e h)]
  exact e
/-- an object of ours is written, which did not stand in H -/
theorem Same.write {H G : Hp} {a : Addr} {o : HO} (s : Same H G) (h : H a = none) : Same H (upd G a o) := fun b u e => by
  rw [upd_ne (ne_of_none e h)]
  exact s b u e
theorem seqT {K : PySem.W.Frag} {H H' : Hp} {a : Addr} {xs : List V} (e : Same H H') (h : SqT K H a xs) : SqT K H' a xs := by
  rcases h with (h | ⟨o, h⟩) | h
  · exact .inl (.inl (e _ _ h))
  · exact .inl (.inr ⟨o, e _ _ h⟩)
  · exact .inr h
theorem ifF3 {c : Bool} {A B : Prop} (hc : c = false) (h : B) : if c = true then A else B := by
  rw [hc, if_neg Bool.false_ne_true]
  exact h
theorem ifT3 {c : Bool} {A B : Prop} (hc : c = true) (h : A) : if c = true then A else B := by
  rw [if_pos hc]
  exact h
theorem drop_cons {α : Type} : ∀ {l : List α} {i : Nat} {x : α}, l[i]? = some x → l.drop i = x :: l.drop (i + 1)
  | [], i, x, h => by simp at h
  | y :: l, 0, x, h => by
    simp at h
    simp [h]
  | y :: l, i + 1, x, h => by
    simp only [List.getElem?_cons_succ] at h
    simp only [List.drop_succ_cons]
    exact drop_cons h
theorem kV_key {v : V} (h : IsTerm v) : kV (keyV v) = v := by
  rcases h with ⟨x, rfl⟩ | ⟨n, rfl⟩ <;> rfl
theorem prs_len : ∀ S : List Str, (prs S).length = S.length / 2
  | [] => rfl
  | [x] => by
    show 0 = 1 / 2
    omega
  | x :: y :: r => by
    show (prs r).length + 1 = (r.length + 1 + 1) / 2
    rw [prs_len r]
    omega
section
variable {P : Program} {w : World} {K : PySem.W.Frag} {mg : Str → Option Value} {base : Heap}
theorem scSum : FnScope ["words", "names", "signed", "terms", "used", "at", "term"] ["words", "names"] (defScope sSum) := ⟨rfl, rfl, rfl, by decide +kernel, rfl, by decide +kernel, by decide +kernel⟩
theorem ok_sum {f fT : Addr} {fd fdT : FuncData} (F : Fun K "sum_in" "sum_in" sSum f fd) (T : TxtN mg) (GT : FnOk P w K mg base CX0 2 fT fdT ["word", "names"] (spTerm K)) (kT : PySem.W.keepIn K (.ref fT) = true) (bT : Binds K fdT ["word", "names"] []) (gT : mg "term_in" = some (.ref fT)) : FnOk P w K mg base CX0 3 f fd ["words", "names"] (spSum K) := by
  obtain ⟨tk, hterms⟩ := T.terms
  refine F.ok scSum (fun vs H Q E h => ?_) (fun cdv A outer s H vs Q E hr h => ?_)
  · obtain ⟨a, t, ws, ns, rfl, _⟩ := h
    rfl
  · obtain ⟨a, t, ws, ns, rfl, ha, ht, hok, hlen, k⟩ := h
    have hu := hu_of hr
    refine ⟨_, pss_cons (ps_if (PW.pt (pw_or (pt_cmpR op_eq (pe_op op_mod (pe_callB call_len_seq (by rfl) T.len PySem.boot_len (pa_cons (pv 0) pa_nil)) pe_int) pe_int (nomark _)) (pw_or1 (pt_cmpR op_gt (pe_callB call_len_seq (by rfl) T.len PySem.boot_len (pa_cons (pv 0) pa_nil)) (pe_op op_sub (pe_op op_mul pe_int (pe_glob (v := .int 4) (by rfl) hterms ⟨tk, rfl⟩)) pe_int) (nomark _))))) (pss_one (ps_ret pe_non)) pss_nil)
      (pss_cons (ps_set (i := 2) scSum.nd rfl (Or.inl rfl) (pe_lst (pa_cons pe_str (StX.pa_star (pv 0) pa_nil))))
      (pss_cons (ps_set (i := 3) scSum.nd rfl (Or.inl rfl) (pe_lst pa_nil))
      (pss_cons (ps_set (i := 4) scSum.nd rfl (Or.inl rfl) pe_dnewK)
      (pss_cons (ps_for PassesOwn.never rfl (pi_range3 (by rfl) T.range (pa_cons pe_int (pa_cons (pe_callB call_len_seq (by rfl) T.len PySem.boot_len (pa_cons (pv 2) pa_nil)) (pa_cons pe_int pa_nil)))) (pg_name (i := 5) scSum.nd rfl (Or.inl rfl))
        (pss_cons (ps_set (i := 6) scSum.nd rfl (Or.inl rfl) (pe_call GT hr rfl gT kT bT .nil pass0 (pa_cons (pe_ix ix_list (pv 2) (pe_op op_add (pv 5) pe_int) (fun _ _ => rfl)) (pa_cons (pv 1) pa_nil))))
        (pss_cons (ps_if (PW.pt (pw_or (pt_cmpR op_notIn_seq (pe_ix ix_list (pv 2) (pv 5) (fun _ _ => rfl)) (pe_tup (pa_cons pe_str (pa_cons pe_str pa_nil))) (by rfl)) (pw_or (pt_cmpR op_isN (pv 6) pe_non (nomark _)) (pw_or1 (pt_cmp (pc_din hu (pv 6) (pv 4))))))) (pss_one (ps_ret pe_non)) pss_nil)
        (pss_cons (ps_if (pt_val (pe_callB (id := "isinstance") call_isi (by rfl) T.isi (by decide +kernel) (pa_cons (pv 6) (pa_cons (pe_bltn (v := .ty "str") (by rfl) T.str (by decide +kernel) rfl) pa_nil)))) (pss_one (ps_dput hu (pv 4) (pv 6) pe_bl rfl)) pss_nil)
        (pss_one (ps_expr (pe_bm PySem.F.plainAttrs_list PySem.F.slot_list_append PySem.F.type_list_append mt_append (pv 3) (pa_cons (pe_tup (pa_cons (pe_ifExp (pt_cmpR op_eq (pe_ix ix_list (pv 2) (pv 5) (fun _ _ => rfl)) pe_str (nomark _)) pe_int (pe_un un_neg pe_int)) (pa_cons (pv 6) pa_nil))) pa_nil))))))))
      (pss_one (ps_ret (pe_callTy call_tuple_of (by rfl) T.tuple (by decide +kernel) (pa_cons (pv 3) pa_nil)))))))), ?_⟩
    have hlL : ((ws.map V.str).length : Int) = (ws.length : Int) := by rw [List.length_map]
    have out : ws.length % 2 = 0 ∨ 7 < ws.length → Q .non H := fun z => k .non H (Same.refl H) (by
      unfold sumM
      rw [if_pos z]
      rfl)
    refine ⟨_, rfl, a, _, rfl, .inl ha, _, 2, rfl, rfl, (by show (0 : Int) < 2; decide), rfl, _, rfl, ?_⟩
    refine ite2 (fun h0 => ?_) (fun h0 => ?_)
    · refine iteT ?_
      have h0' := V.int.inj (of_decide_eq_true h0)
      rw [hlL] at h0'
      exact out (.inl (by omega))
    have h0' : ws.length % 2 ≠ 0 := fun z => h0 (by
      rw [hlL]
      exact decide_eq_true (congrArg V.int (show ((ws.length : Int) % 2) = 0 by omega)))
    refine ⟨_, rfl, a, _, rfl, .inl ha, 2, 4, rfl, rfl, .inl ⟨by decide, by decide⟩, 8, 1, rfl, rfl, _, 7, rfl, rfl, _, rfl, ?_⟩
    refine ite2 (fun h7 => ?_) (fun h7 => ?_)
    · have h7' := of_decide_eq_true h7
      rw [hlL] at h7'
      exact out (.inr (by omega))
    have h7' : ws.length ≤ 7 := by
      have : ¬ (7 : Int) < ((ws.map V.str).length : Int) := fun z => h7 (decide_eq_true z)
      rw [hlL] at this
      omega
    refine ⟨_, rfl, a, _, rfl, .inr ha, (by
      rw [List.append_nil]
      exact Nat.le_of_lt (small1000 (by show (ws.map V.str).length + 1 ≤ 1000; rw [List.length_map]; omega))), fun S nS => ?_⟩
    rw [List.append_nil]
    refine ⟨(by show 0 ≤ sizeLine; decide), fun L nL => ?_⟩
    intro D nD
    have sS := Same.new (o := .lst ((("+" : Str) :: ws).map V.str)) nS
    have sL := sS.trans (Same.new (o := .lst []) nL)
    have sD := sL.trans (Same.new (o := .dK []) nD)
    have nSL : S ≠ L := fun e => by rw [← e, upd_same] at nL; cases nL
    have nSD : S ≠ D := fun e => by rw [← e, upd_ne nSL, upd_same] at nD; cases nD
    have nLD : L ≠ D := fun e => by rw [← e, upd_same] at nD; cases nD
    have HL : H L = none := sS.free nL
    have HD : H D = none := sL.free nD
    have hS0 : upd (upd (upd H S (.lst ((("+" : Str) :: ws).map V.str))) L (.lst [])) D (.dK []) S = some (.lst ((("+" : Str) :: ws).map V.str)) := by rw [upd_ne nSD, upd_ne nSL, upd_same]
    have hl1 : (((("+" : Str) :: ws).map V.str).length : Int) = (ws.length : Int) + 1 := by
      rw [List.length_map, List.length_cons]
      omega
    have hodd : ws.length = 1 ∨ ws.length = 3 ∨ ws.length = 5 ∨ ws.length = 7 := by omega
    have hrg : RgC 0 (((("+" : Str) :: ws).map V.str).length : Int) 2 ((ws.length + 1) / 2) := by
      rw [hl1]
      exact rg2 hodd
    have hsum : sumM ws ns = sumGo ns (prs (("+" : Str) :: ws)) [] := by
      unfold sumM
      rw [if_neg (by omega)]
    refine ⟨_, rfl, S, _, rfl, .inl (SqL.of hS0), 0, _, 2, _, rfl, hrg, for_rangeC (lo := 0) (c := 2) (n := (ws.length + 1) / 2)
      (fun i σ G => ∃ (acc : Acc) (ts : List Addr) (v5 v6 : Option V), σ = [some (.ref a), some (.ref t), some (.ref S), some (.ref L), some (.ref D), v5, v6] ∧ G S = some (.lst ((("+" : Str) :: ws).map V.str)) ∧ G L = some (.lst (ts.map V.ref)) ∧ G D = some (.dK (usedL acc)) ∧ TupAt G ts acc ∧ Same H G ∧
        sumGo ns (prs (("+" : Str) :: ws)) [] = sumGo ns ((prs (("+" : Str) :: ws)).drop i) acc ∧ acc.length = i)
      ⟨[], [], none, none, rfl, hS0, by rw [upd_ne nLD]; exact upd_same, upd_same, .nil, sD, rfl, rfl⟩ ?_ ?_⟩
    · rintro i σ G hi ⟨acc, ts, v5, v6, rfl, hS, hL, hD, hT, hH, hgo, hacc⟩
      have hi2 : 2 * i + 1 < (("+" : Str) :: ws).length := by
        rw [List.length_cons]
        omega
      have hTl := hT.len
      obtain ⟨s1, e1⟩ : ∃ s1, (("+" : Str) :: ws)[2 * i]? = some s1 := ⟨_, List.getElem?_eq_getElem (by omega)⟩
      obtain ⟨t1, e2⟩ : ∃ t1, (("+" : Str) :: ws)[2 * i + 1]? = some t1 := ⟨_, List.getElem?_eq_getElem hi2⟩
      have c1 : atI ((("+" : Str) :: ws).map V.str) (0 + (i : Int) * 2) = some (.str s1) := by
        rw [show (0 + (i : Int) * 2) = ((2 * i : Nat) : Int) by omega]
        exact atI_nat (by rw [List.getElem?_map, e1]; rfl)
      have c2 : atI ((("+" : Str) :: ws).map V.str) (0 + (i : Int) * 2 + 1) = some (.str t1) := by
        rw [show (0 + (i : Int) * 2 + 1) = ((2 * i + 1 : Nat) : Int) by omega]
        exact atI_nat (by rw [List.getElem?_map, e2]; rfl)
      have ok1 : t1.length ≤ 1000 ∧ NumOk t1 := by
        have hm : t1 ∈ ws := by
          have z : ws[2 * i]? = some t1 := by simpa using e2
          exact List.mem_of_getElem? z
        exact hok t1 hm
      have hdrop := drop_cons (prs_get _ i s1 t1 e1 e2)
      rw [hdrop] at hgo
      refine ⟨_, rfl, _, rfl, _, 1, rfl, rfl, S, _, _, _, rfl, rfl, SqL.of hS, c2, _, rfl, t1, t, ns, rfl, ok1.1, ok1.2, seqT hH ht, ?_⟩
      have bad : ∀ G' : Hp, Same H G' → (match termV t1 ns with | none => none | some v => if (decide (s1 ∈ [("+" : Str), "-"]) && !(valV (usedL acc) (keyV v)).isSome) = true then sumGo ns ((prs ((("+" : Str) :: ws))).drop (i + 1)) (acc ++ [(sgn s1, v)]) else none) = none → Q .non G' := fun G' hG' z => k _ _ hG' (by
        rw [hsum, hgo]
        unfold sumGo
        rw [z]
        rfl)
      have hin : inV (.str s1) [.str "+", .str "-"] = decide (s1 ∈ [("+" : Str), "-"]) := inV_str s1 ["+", "-"]
      refine ⟨_, rfl, _, rfl, S, _, _, _, rfl, rfl, SqL.of hS, c1, (by show 2 ≤ sizeLine; decide), fun q nq => ⟨q, _, rfl, .inr (SqT.of upd_same), rfl, rfl, ?_⟩⟩
      rw [if_pos rfl, hin]
      have s1q := hH.trans (Same.new (o := .tup [.str "+", .str "-"]) nq)
      have kq := Same.new (o := .tup [.str "+", .str "-"]) nq
      refine ⟨_, rfl, ?_⟩
      by_cases hs : s1 ∈ [("+" : Str), "-"]
      · rw [decide_eq_true hs] at bad ⊢
        refine iteF ?_
        refine ⟨_, rfl, rfl, _, rfl, ?_⟩
        cases hv : termV t1 ns with
        | none =>
          rw [hv] at bad
          refine iteT ?_
          refine iteT ?_
          exact bad _ s1q rfl
        | some v =>
          rw [hv] at bad
          have it := term_is hv
          have nn : (decide (optV (some v) = V.non)) = false := decide_eq_false (by
            rcases it with ⟨x, rfl⟩ | ⟨n, rfl⟩
            · intro z; cases z
            · intro z; cases z)
          refine ifF3 nn ?_
          have hdg : DGet (upd G q (.tup [.str "+", .str "-"])) D v (valV (usedL acc) (keyV v)) := by
            have z := DGet.k (k := keyV v) (kq _ _ hD)
            rw [kV_key it] at z
            exact z
          refine ⟨_, rfl, _, rfl, D, _, rfl, hdg, _, rfl, ?_⟩
          cases hu1 : valV (usedL acc) (keyV v) with
          | some y =>
            refine iteT ?_
            refine bad _ s1q ?_
            show (if (true && !(valV (usedL acc) (keyV v)).isSome) = true then _ else none) = none
            rw [hu1]
            rfl
          | none =>
            have hgo2 : sumGo ns (prs ((("+" : Str) :: ws))) [] = sumGo ns ((prs ((("+" : Str) :: ws))).drop (i + 1)) (acc ++ [(sgn s1, v)]) := by
              rw [hgo]
              show (match termV t1 ns with | none => none | some v => if (decide (s1 ∈ [("+" : Str), "-"]) && !(valV (usedL acc) (keyV v)).isSome) = true then sumGo ns ((prs ((("+" : Str) :: ws))).drop (i + 1)) (acc ++ [(sgn s1, v)]) else none) = _
              rw [hv]
              show (if (decide (s1 ∈ [("+" : Str), "-"]) && !(valV (usedL acc) (keyV v)).isSome) = true then _ else none) = _
              rw [decide_eq_true hs, hu1]
              rfl
            refine iteF ?_
            have l1 := kq _ _ hL
            have d1 := kq _ _ hD
            have r1 := kq _ _ hS
            have t1' := hT.keep kq
            rcases it with ⟨x, rfl⟩ | ⟨n, rfl⟩
            · refine ⟨_, rfl, .str x, .ty "str", .type "str", .type "str", true, rfl, .ty _, .base (.str _), rfl, _, rfl, ?_⟩
              refine iteT ?_
              have hput : DPut (upd G q (.tup [.str "+", .str "-"])) D (.str x) (.bl true) (upd (upd G q (.tup [.str "+", .str "-"])) D (.dK (putK (usedL acc) (.inr x) (.bl true)))) := DPut.k (k := .inr x) d1 (small1000 (by have := usedL_len acc; omega))
              have eput : putK (usedL acc) (.inr x : Key) (.bl true) = usedL (acc ++ [(sgn s1, .str x)]) := by
                rw [putK_new _ (show valV (usedL acc) (.inr x : Key) = none from hu1), usedL_add]
                rfl
              rw [eput] at hput
              refine ⟨_, rfl, _, rfl, D, _, rfl, hput, ?_⟩
              have l2 : upd (upd G q (.tup [.str "+", .str "-"])) D (.dK (usedL (acc ++ [(sgn s1, .str x)]))) L = some (.lst (ts.map V.ref)) := by rw [upd_ne nLD]; exact l1
              have r2 : upd (upd G q (.tup [.str "+", .str "-"])) D (.dK (usedL (acc ++ [(sgn s1, .str x)]))) S = some (.lst (((("+" : Str) :: ws)).map V.str)) := by rw [upd_ne nSD]; exact r1
              have d2 : upd (upd G q (.tup [.str "+", .str "-"])) D (.dK (usedL (acc ++ [(sgn s1, .str x)]))) D = some (.dK (usedL (acc ++ [(sgn s1, .str x)]))) := upd_same
              have s2 : Same H (upd (upd G q (.tup [.str "+", .str "-"])) D (.dK (usedL (acc ++ [(sgn s1, .str x)])))) := Same.write s1q HD
              have t2 : TupAt (upd (upd G q (.tup [.str "+", .str "-"])) D (.dK (usedL (acc ++ [(sgn s1, .str x)])))) ts acc := tupW (fun xs z => by cases z) d1 t1'
              refine ⟨_, rfl, .inl ⟨rfl, _, SqL.of l2⟩, _, rfl, _, rfl, S, _, _, _, rfl, rfl, SqL.of r2, c1, rfl, _, rfl, ?_⟩
              by_cases e : s1 = "+"
              · refine ifT3 (decide_eq_true (congrArg V.str e)) ?_
                refine ⟨_, rfl, (by show 2 ≤ sizeLine; decide), fun p np => ?_⟩
                have kp := Same.new (o := .tup [.int (1), (.str x)]) np
                have nLp : L ≠ p := ne_of_none l2 np
                have nSp : S ≠ p := ne_of_none r2 np
                have nDp : D ≠ p := ne_of_none d2 np
                refine ⟨L, _, _, rfl, rfl, kp _ _ l2, small1000 (by rw [List.length_map, hTl]; omega), ?_⟩
                have esg : sgn s1 = 1 := by
                  unfold sgn
                  rw [if_pos e]
                refine ⟨acc ++ [(sgn s1, (.str x))], ts ++ [p], _, _, rfl, by rw [upd_ne nSL]; exact kp _ _ r2, by rw [List.map_append]; exact upd_same, by rw [upd_ne nLD.symm]; exact kp _ _ d2, ?_, Same.write (s2.trans kp) HL, hgo2, by rw [List.length_append, hacc]; rfl⟩
                refine TupAt.snoc ⟨?_, .inl ⟨_, rfl⟩⟩ ?_
                · rw [upd_ne nLp.symm, esg]
                  exact upd_same
                · exact tupW (fun xs z => by cases z) (kp _ _ l2) (t2.keep kp)
              · refine ifF3 (decide_eq_false fun z => e (V.str.inj z)) ?_
                refine ⟨1, rfl, _, rfl, (by show 2 ≤ sizeLine; decide), fun p np => ?_⟩
                have kp := Same.new (o := .tup [.int (-1), (.str x)]) np
                have nLp : L ≠ p := ne_of_none l2 np
                have nSp : S ≠ p := ne_of_none r2 np
                have nDp : D ≠ p := ne_of_none d2 np
                refine ⟨L, _, _, rfl, rfl, kp _ _ l2, small1000 (by rw [List.length_map, hTl]; omega), ?_⟩
                have esg : sgn s1 = -1 := by
                  unfold sgn
                  rw [if_neg e]
                refine ⟨acc ++ [(sgn s1, (.str x))], ts ++ [p], _, _, rfl, by rw [upd_ne nSL]; exact kp _ _ r2, by rw [List.map_append]; exact upd_same, by rw [upd_ne nLD.symm]; exact kp _ _ d2, ?_, Same.write (s2.trans kp) HL, hgo2, by rw [List.length_append, hacc]; rfl⟩
                refine TupAt.snoc ⟨?_, .inl ⟨_, rfl⟩⟩ ?_
                · rw [upd_ne nLp.symm, esg]
                  exact upd_same
                · exact tupW (fun xs z => by cases z) (kp _ _ l2) (t2.keep kp)
            · refine ⟨_, rfl, .int n, .ty "str", .type "int", .type "str", false, rfl, .ty _, .base (.int _), rfl, _, rfl, ?_⟩
              refine iteF ?_
              have l2 := l1
              have r2 := r1
              have t2 := t1'
              have s2 := s1q
              have d2 : upd G q (.tup [.str "+", .str "-"]) D = some (.dK (usedL (acc ++ [(sgn s1, .int n)]))) := by
                rw [usedL_add]
                show _ = some (HO.dK (usedL acc ++ []))
                rw [List.append_nil]
                exact d1
              refine ⟨_, rfl, .inl ⟨rfl, _, SqL.of l2⟩, _, rfl, _, rfl, S, _, _, _, rfl, rfl, SqL.of r2, c1, rfl, _, rfl, ?_⟩
              by_cases e : s1 = "+"
              · refine ifT3 (decide_eq_true (congrArg V.str e)) ?_
                refine ⟨_, rfl, (by show 2 ≤ sizeLine; decide), fun p np => ?_⟩
                have kp := Same.new (o := .tup [.int (1), (.int n)]) np
                have nLp : L ≠ p := ne_of_none l2 np
                have nSp : S ≠ p := ne_of_none r2 np
                have nDp : D ≠ p := ne_of_none d2 np
                refine ⟨L, _, _, rfl, rfl, kp _ _ l2, small1000 (by rw [List.length_map, hTl]; omega), ?_⟩
                have esg : sgn s1 = 1 := by
                  unfold sgn
                  rw [if_pos e]
                refine ⟨acc ++ [(sgn s1, (.int n))], ts ++ [p], _, _, rfl, by rw [upd_ne nSL]; exact kp _ _ r2, by rw [List.map_append]; exact upd_same, by rw [upd_ne nLD.symm]; exact kp _ _ d2, ?_, Same.write (s2.trans kp) HL, hgo2, by rw [List.length_append, hacc]; rfl⟩
                refine TupAt.snoc ⟨?_, .inr ⟨_, rfl⟩⟩ ?_
                · rw [upd_ne nLp.symm, esg]
                  exact upd_same
                · exact tupW (fun xs z => by cases z) (kp _ _ l2) (t2.keep kp)
              · refine ifF3 (decide_eq_false fun z => e (V.str.inj z)) ?_
                refine ⟨1, rfl, _, rfl, (by show 2 ≤ sizeLine; decide), fun p np => ?_⟩
                have kp := Same.new (o := .tup [.int (-1), (.int n)]) np
                have nLp : L ≠ p := ne_of_none l2 np
                have nSp : S ≠ p := ne_of_none r2 np
                have nDp : D ≠ p := ne_of_none d2 np
                refine ⟨L, _, _, rfl, rfl, kp _ _ l2, small1000 (by rw [List.length_map, hTl]; omega), ?_⟩
                have esg : sgn s1 = -1 := by
                  unfold sgn
                  rw [if_neg e]
                refine ⟨acc ++ [(sgn s1, (.int n))], ts ++ [p], _, _, rfl, by rw [upd_ne nSL]; exact kp _ _ r2, by rw [List.map_append]; exact upd_same, by rw [upd_ne nLD.symm]; exact kp _ _ d2, ?_, Same.write (s2.trans kp) HL, hgo2, by rw [List.length_append, hacc]; rfl⟩
                refine TupAt.snoc ⟨?_, .inr ⟨_, rfl⟩⟩ ?_
                · rw [upd_ne nLp.symm, esg]
                  exact upd_same
                · exact tupW (fun xs z => by cases z) (kp _ _ l2) (t2.keep kp)
      · rw [decide_eq_false hs] at bad ⊢
        refine iteT ?_
        refine iteT ?_
        refine bad _ s1q ?_
        cases termV t1 ns <;> rfl
    · rintro σ G ⟨acc, ts, v5, v6, rfl, hS, hL, hD, hT, hH, hgo, hacc⟩
      refine ⟨_, rfl, L, _, rfl, .inl ⟨SqL.of hL, fun q nq => ?_⟩⟩
      have hq := Same.new (o := .tup (ts.map V.ref)) nq
      refine k _ _ (hH.trans hq) ?_
      rw [hsum, hgo, List.drop_eq_nil_of_le (by rw [prs_len, List.length_cons]; exact Nat.le_refl _)]
      exact ⟨(by intro z; cases z), .tup (SqT.of upd_same) ((hT.keep hq).dp)⟩
end
end K15

set_option Elab.async false
set_option linter.all false
set_option maxRecDepth 100000
set_option maxHeartbeats 8000000
/-! Texts, c: comparisons, parts -/
namespace K15
open PySem L2
def ResD (K : PySem.W.Frag) (H : Hp) (v : V) : Option PyData → Prop
  | none => v = .non
  | some d => v ≠ .non ∧ TDp K H v d
def cmps : List Str := ["<", "<=", "is"]
def compM (ws ns : List Str) : Option PyData := match ws with
  | [x, c, y] => if c ∈ cmps ∧ x ≠ y then (match termV x ns, termV y ns with
    | some u, some v => some (.tuple [.str c, datV u, datV v])
    | _, _ => none) else none
  | _ => none
def spComp (K : PySem.W.Frag) : Sp := fun vs H Q _ => ∃ (a t : Addr) (ws ns : List Str), vs = [.ref a, .ref t] ∧ SqL K H a (ws.map V.str) ∧ SqT K H t (ns.map V.str) ∧ (∀ w ∈ ws, w.length ≤ 1000 ∧ NumOk w) ∧
  ∀ (v : V) (H' : Hp), Same H H' → ResD K H' v (compM ws ns) → Q v H'
/-- words, parted where «and» stands: what is done, what is open -/
def partStep (p : List (List Str) × List Str) (w : Str) : List (List Str) × List Str := if w = "and" then (p.1 ++ [p.2], []) else (p.1, p.2 ++ [w])
def partGo (ws : List Str) : List (List Str) × List Str := ws.foldl partStep ([], [])
def partM (ws : List Str) : List (List Str) := (partGo ws).1 ++ [(partGo ws).2]
/-- lists of words stand -/
def ListsAt (H : Hp) : List Addr → List (List Str) → Prop := Paired fun r l => H r = some (.lst (l.map V.str))
theorem ListsAt.keep {H H' : Hp} (s : Same H H') : ∀ {rs : List Addr} {ls : List (List Str)}, ListsAt H rs ls → ListsAt H' rs ls
  | _, _, .nil => .nil
  | _, _, .cons h r => .cons (s _ _ h) (ListsAt.keep s r)
theorem ListsAt.write {H : Hp} {a : Addr} {o : HO} : ∀ {rs : List Addr} {ls : List (List Str)}, ListsAt H rs ls → a ∉ rs → ListsAt (upd H a o) rs ls
  | _, _, .nil, _ => .nil
  | _, _, .cons h r, ha => .cons (by rw [upd_ne (fun z => ha (by rw [z]; exact List.mem_cons_self ..))]; exact h) (ListsAt.write r fun z => ha (List.mem_cons_of_mem _ z))
theorem ListsAt.snoc {H : Hp} {r : Addr} {l : List Str} (h : H r = some (.lst (l.map V.str))) : ∀ {rs : List Addr} {ls : List (List Str)}, ListsAt H rs ls → ListsAt H (rs ++ [r]) (ls ++ [l])
  | _, _, .nil => .cons h .nil
  | _, _, .cons h1 t => .cons h1 (ListsAt.snoc h t)
theorem ListsAt.get {H : Hp} {r : Addr} : ∀ {rs : List Addr} {ls : List (List Str)} {i : Nat}, ListsAt H rs ls → rs[i]? = some r → ∃ l, ls[i]? = some l ∧ H r = some (.lst (l.map V.str))
  | _, _, i, .nil, e => by simp at e
  | _, _, 0, .cons h t, e => by
    simp at e
    subst e
    exact ⟨_, by simp, h⟩
  | _, _, i + 1, .cons h t, e => by
    simp only [List.getElem?_cons_succ] at e ⊢
    exact ListsAt.get t e
theorem ListsAt.there {H : Hp} {a : Addr} : ∀ {rs : List Addr} {ls : List (List Str)}, ListsAt H rs ls → a ∈ rs → ∃ o, H a = some o
  | _, _, .nil, z => nomatch z
  | _, _, .cons h t, z => by
    rcases List.mem_cons.mp z with e | e
    · exact ⟨_, by rw [e]; exact h⟩
    · exact ListsAt.there t e
def spParted (K : PySem.W.Frag) : Sp := fun vs H Q _ => ∃ (a : Addr) (ws : List Str), vs = [.ref a] ∧ SqL K H a (ws.map V.str) ∧ ws.length ≤ 1000 ∧
  ∀ (p : Addr) (rs : List Addr) (H' : Hp), Same H H' → H' p = some (.lst (rs.map V.ref)) → ListsAt H' rs (partM ws) → Q (.ref p) H'
structure TxtT (K : PySem.W.Frag) (mg : Str → Option Value) : Prop where
  comp : ∃ c, mg "COMPARISONS" = some (.ref c) ∧ ∀ H, SqT K H c (cmps.map V.str)
theorem take_more {α : Type} : ∀ {l : List α} {i : Nat} {x : α}, l[i]? = some x → l.take (i + 1) = l.take i ++ [x]
  | [], i, x, h => by simp at h
  | a :: l, 0, x, h => by
    have e : a = x := Option.some.inj h
    subst e
    rfl
  | a :: l, i + 1, x, h => by
    have ih := take_more (l := l) (i := i) (x := x) h
    show a :: l.take (i + 1) = a :: l.take i ++ [x]
    rw [ih]
    rfl
section
variable {P : Program} {w : World} {K : PySem.W.Frag} {mg : Str → Option Value} {base : Heap}
theorem scComp : FnScope ["words", "names", "left", "right"] ["words", "names"] (defScope sComp) := ⟨rfl, rfl, rfl, by decide +kernel, rfl, by decide +kernel, by decide +kernel⟩
theorem ok_comp {f fT : Addr} {fd fdT : FuncData} (F : Fun K "comparison_in" "comparison_in" sComp f fd) (T : TxtN mg) (U : TxtT K mg) (GT : FnOk P w K mg base CX0 2 fT fdT ["word", "names"] (spTerm K)) (kT : PySem.W.keepIn K (.ref fT) = true) (bT : Binds K fdT ["word", "names"] []) (gT : mg "term_in" = some (.ref fT)) : FnOk P w K mg base CX0 3 f fd ["words", "names"] (spComp K) := by
  obtain ⟨c, hc, hC⟩ := U.comp
  refine F.ok scComp (fun vs H Q E h => ?_) (fun cdv A outer s H vs Q E hr h => ?_)
  · obtain ⟨a, t, ws, ns, rfl, _⟩ := h
    rfl
  · obtain ⟨a, t, ws, ns, rfl, ha, ht, hok, k⟩ := h
    refine ⟨_, pss_cons (ps_if (PW.pt (pw_or (pt_cmpR op_ne (pe_callB call_len_seq (by rfl) T.len PySem.boot_len (pa_cons (pv 0) pa_nil)) pe_int (nomark _)) (pw_or (pt_cmpR op_notIn_seq (pe_ix ix_list (pv 0) pe_int (fun _ _ => rfl)) (pe_glob (v := .ref c) (by rfl) hc rfl) (by rfl)) (pw_or1 (pt_cmpR op_eq (pe_ix ix_list (pv 0) pe_int (fun _ _ => rfl)) (pe_ix ix_list (pv 0) pe_int (fun _ _ => rfl)) (nomark _)))))) (pss_one (ps_ret pe_non)) pss_nil)
      (pss_cons (ps_set (i := 2) scComp.nd rfl (Or.inl rfl) (pe_call GT hr rfl gT kT bT .nil pass0 (pa_cons (pe_ix ix_list (pv 0) pe_int (fun _ _ => rfl)) (pa_cons (pv 1) pa_nil))))
      (pss_cons (ps_set (i := 3) scComp.nd rfl (Or.inl rfl) (pe_call GT hr rfl gT kT bT .nil pass0 (pa_cons (pe_ix ix_list (pv 0) pe_int (fun _ _ => rfl)) (pa_cons (pv 1) pa_nil))))
      (pss_cons (ps_if (PW.pt (pw_or (pt_cmpR op_isN (pv 2) pe_non (nomark _)) (pw_or1 (pt_cmpR op_isN (pv 3) pe_non (nomark _))))) (pss_one (ps_ret pe_non)) pss_nil)
      (pss_one (ps_ret (pe_tup (pa_cons (pe_ix ix_list (pv 0) pe_int (fun _ _ => rfl)) (pa_cons (pv 2) (pa_cons (pv 3) pa_nil))))))))), ?_⟩
    have out : compM ws ns = none → Q .non H := fun z => k .non H (Same.refl H) (by rw [z]; rfl)
    refine ⟨_, rfl, a, _, rfl, .inl ha, rfl, _, rfl, ?_⟩
    refine ite2 (fun h3 => ?_) (fun h3 => ?_)
    · refine iteT ?_
      refine out ?_
      unfold compM
      split
      · exfalso
        simp at h3
      · rfl
    have hl3 : ws.length = 3 := by
      have z := h3
      simp at z
      have z2 := z
      omega
    obtain ⟨x, c', y, rfl⟩ : ∃ x c' y, ws = [x, c', y] := by
      match ws, hl3 with
      | [x, c', y], _ => exact ⟨x, c', y, rfl⟩
    have i0 : atI ([x, c', y].map V.str) 0 = some (.str x) := atI_nat (j := 0) rfl
    have i1 : atI ([x, c', y].map V.str) 1 = some (.str c') := atI_nat (j := 1) rfl
    have i2 : atI ([x, c', y].map V.str) 2 = some (.str y) := atI_nat (j := 2) rfl
    refine ⟨_, rfl, a, _, 1, _, rfl, rfl, ha, i1, c, _, rfl, .inr (hC _), rfl, flat_str cmps, ?_⟩
    rw [if_pos rfl, inV_str]
    refine ⟨_, rfl, ?_⟩
    by_cases hcm : c' ∈ cmps
    case neg =>
      rw [decide_eq_false hcm]
      refine iteT ?_
      refine iteT ?_
      refine out ?_
      show (if c' ∈ cmps ∧ x ≠ y then _ else none) = none
      rw [if_neg fun z => hcm z.1]
    rw [decide_eq_true hcm]
    refine iteF ?_
    refine ⟨_, rfl, a, _, 0, _, rfl, rfl, ha, i0, _, rfl, a, _, 2, _, rfl, rfl, ha, i2, rfl, _, rfl, ?_⟩
    refine ite2 (fun hxy => ?_) (fun hxy => ?_)
    · refine out ?_
      have e : x = y := V.str.inj (of_decide_eq_true hxy)
      show (if c' ∈ cmps ∧ x ≠ y then _ else none) = none
      rw [if_neg fun z => z.2 e]
    have hxy' : x ≠ y := fun e => hxy (decide_eq_true (congrArg V.str e))
    have hM : compM [x, c', y] ns = (match termV x ns, termV y ns with
      | some u, some v => some (.tuple [.str c', datV u, datV v])
      | _, _ => none) := by
      show (if c' ∈ cmps ∧ x ≠ y then _ else none) = _
      rw [if_pos ⟨hcm, hxy'⟩]
    have ox := hok x (by simp)
    have oy := hok y (by simp)
    refine ⟨_, rfl, a, _, 0, _, rfl, rfl, ha, i0, _, rfl, x, t, ns, rfl, ox.1, ox.2, ht, ?_⟩
    refine ⟨_, rfl, a, _, 2, _, rfl, rfl, ha, i2, _, rfl, y, t, ns, rfl, oy.1, oy.2, ht, ?_⟩
    refine ⟨_, rfl, rfl, _, rfl, ?_⟩
    cases hvx : termV x ns with
    | none =>
      refine iteT ?_
      refine iteT ?_
      refine out ?_
      rw [hM, hvx]
    | some u =>
      have itu := term_is hvx
      have nu : decide (optV (some u) = V.non) = false := decide_eq_false (by
        rcases itu with ⟨x, rfl⟩ | ⟨n, rfl⟩
        · intro z; cases z
        · intro z; cases z)
      refine ifF3 nu ?_
      refine ⟨_, rfl, rfl, _, rfl, ?_⟩
      cases hvy : termV y ns with
      | none =>
        refine iteT ?_
        refine out ?_
        rw [hM, hvx, hvy]
      | some v =>
        have itv := term_is hvy
        have nv : decide (optV (some v) = V.non) = false := decide_eq_false (by
          rcases itv with ⟨x, rfl⟩ | ⟨n, rfl⟩
          · intro z; cases z
          · intro z; cases z)
        refine ifF3 nv ?_
        refine ⟨_, rfl, a, _, 1, _, rfl, rfl, ha, i1, _, rfl, _, rfl, (by show 3 ≤ sizeLine; decide), fun p np => ?_⟩
        refine k _ _ (Same.new np) ?_
        rw [hM, hvx, hvy]
        exact ⟨(by intro z; cases z), .tup (SqT.of upd_same) (.cons (.str _) (.cons (dat_dp itu) (.cons (dat_dp itv) .nil)))⟩
theorem scParted : FnScope ["words", "parts", "word"] ["words"] (defScope sPart) := ⟨rfl, rfl, rfl, by decide +kernel, rfl, by decide +kernel, by decide +kernel⟩
theorem ok_parted {f : Addr} {fd : FuncData} (F : Fun K "parted" "parted" sPart f fd) : FnOk P w K mg base CX0 1 f fd ["words"] (spParted K) := by
  refine F.ok scParted (fun vs H Q E h => ?_) (fun cdv A outer s H vs Q E hr h => ?_)
  · obtain ⟨a, ws, rfl, _⟩ := h
    rfl
  · obtain ⟨a, ws, rfl, ha, hlen, k⟩ := h
    refine ⟨_, pss_cons (ps_set (i := 1) scParted.nd rfl (Or.inl rfl) (pe_lst (pa_cons (pe_lst pa_nil) pa_nil)))
      (pss_cons (ps_for PassesOwn.never rfl (pi_list (pv 0)) (pg_name (i := 2) scParted.nd rfl (Or.inl rfl))
        (pss_one (ps_if (pt_cmpR op_eq (pv 2) pe_str (nomark _))
          (pss_one (ps_expr (pe_bm PySem.F.plainAttrs_list PySem.F.slot_list_append PySem.F.type_list_append mt_append (pv 1) (pa_cons (pe_lst pa_nil) pa_nil))))
          (pss_one (ps_expr (pe_bm PySem.F.plainAttrs_list PySem.F.slot_list_append PySem.F.type_list_append mt_append (pe_ix ix_list (pv 1) (pe_un un_neg pe_int) (fun _ _ => rfl)) (pa_cons (pv 2) pa_nil)))))))
      (pss_one (ps_ret (pv 1)))), ?_⟩
    refine ⟨(by show 0 ≤ sizeLine; decide), fun l0 n0 => ⟨(by show 1 ≤ sizeLine; decide), fun p np => ?_⟩⟩
    have s0 := Same.new (o := .lst []) n0
    have s1 := s0.trans (Same.new (o := .lst [.ref l0]) np)
    have npl : p ≠ l0 := fun e => by rw [e, upd_same] at np; cases np
    have Hp0 : H p = none := s0.free np
    refine ⟨_, rfl, a, rfl, ⟨_, s1.seq ha⟩, for_list (K := K) (a := a) (xs := ws.map V.str)
      (fun i σ G => ∃ (ds : List Addr) (r : Addr) (v : Option V), σ = [some (.ref a), some (.ref p), v] ∧ Same H G ∧ G p = some (.lst ((ds ++ [r]).map V.ref)) ∧ ListsAt G ds (partGo (ws.take i)).1 ∧ G r = some (.lst ((partGo (ws.take i)).2.map V.str)) ∧ r ∉ ds ∧ p ∉ ds ∧ p ≠ r ∧ H r = none ∧ ds.length + (partGo (ws.take i)).2.length ≤ i)
      ⟨[], l0, none, rfl, s1, upd_same, .nil, by rw [upd_ne npl.symm]; exact upd_same, by simp, by simp, npl, n0, by simp [partGo]⟩ (fun i σ G _ ⟨_, _, _, _, e, _⟩ => e.seq ha) ?_ ?_⟩
    · rintro i y σ G hi ⟨ds, r, v, rfl, hH, hp, hds, hr', rds, pds, pr, Hr, hcnt⟩
      obtain ⟨x, hx, rfl⟩ : ∃ x, ws[i]? = some x ∧ y = V.str x := by
        rw [List.getElem?_map] at hi
        cases e : ws[i]? with
        | none => rw [e] at hi; cases hi
        | some x => rw [e] at hi; exact ⟨x, rfl, (Option.some.inj hi).symm⟩
      have hil : i < ws.length := (List.getElem?_eq_some_iff.mp hx).1
      have hgo : partGo (ws.take (i + 1)) = partStep (partGo (ws.take i)) x := by
        unfold partGo
        rw [take_more hx, List.foldl_append]
        rfl
      refine ⟨_, rfl, rfl, _, rfl, ?_⟩
      refine ite2 (fun hand => ?_) (fun hand => ?_)
      · have e : x = "and" := V.str.inj (of_decide_eq_true hand)
        have hst : partStep (partGo (ws.take i)) x = ((partGo (ws.take i)).1 ++ [(partGo (ws.take i)).2], []) := if_pos e
        refine ⟨_, rfl, .inl ⟨rfl, _, SqL.of hp⟩, (by show 0 ≤ sizeLine; decide), fun q nq => ?_⟩
        have sq := Same.new (o := .lst []) nq
        have Hq : H q = none := hH.free nq
        have npq : p ≠ q := ne_of_none hp nq
        have nrq : r ≠ q := ne_of_none hr' nq
        refine ⟨p, _, _, rfl, rfl, sq _ _ hp, small1000 (by rw [List.length_map, List.length_append]; show ds.length + 1 ≤ 1000; omega), ?_⟩
        refine ⟨ds ++ [r], q, _, rfl, Same.write (hH.trans sq) Hp0, ?_, ?_, ?_, ?_, ?_, npq, Hq, ?_⟩
        · rw [List.map_append (l₂ := [q])]
          exact upd_same
        · rw [hgo, hst]
          exact ((ListsAt.snoc (sq _ _ hr') (hds.keep sq))).write (by
            intro z
            rcases List.mem_append.mp z with z | z
            · exact pds z
            · exact pr (List.mem_singleton.mp z))
        · rw [hgo, hst, upd_ne npq.symm]
          exact upd_same
        · intro z
          rcases List.mem_append.mp z with z | z
          · obtain ⟨o, ho⟩ := hds.there z
            rw [nq] at ho
            cases ho
          · exact nrq (List.mem_singleton.mp z).symm
        · intro z
          rcases List.mem_append.mp z with z | z
          · exact pds z
          · exact pr (List.mem_singleton.mp z)
        · rw [hgo, hst, List.length_append]
          show ds.length + 1 + 0 ≤ i + 1
          omega
      · have e : ¬ x = "and" := fun z => hand (decide_eq_true (congrArg V.str z))
        have hst : partStep (partGo (ws.take i)) x = ((partGo (ws.take i)).1, (partGo (ws.take i)).2 ++ [x]) := if_neg e
        refine ⟨_, rfl, 1, rfl, p, _, -1, .ref r, rfl, rfl, SqL.of hp, ?_, ?_⟩
        · rw [List.map_append]
          exact atI_last ..
        refine ⟨.inl ⟨rfl, _, SqL.of hr'⟩, _, rfl, r, _, _, rfl, rfl, hr', small1000 (by rw [List.length_map]; omega), ?_⟩
        refine ⟨ds, r, _, rfl, Same.write hH Hr, by rw [upd_ne pr]; exact hp, ?_, ?_, rds, pds, pr, Hr, ?_⟩
        · rw [hgo, hst]
          exact hds.write rds
        · rw [hgo, hst, List.map_append]
          exact upd_same
        · rw [hgo, hst, List.length_append]
          show ds.length + ((partGo (ws.take i)).2.length + 1) ≤ i + 1
          omega
    · rintro σ G ⟨ds, r, v, rfl, hH, hp, hds, hr', rds, pds, pr, Hr, hcnt⟩
      rw [List.length_map, List.take_length] at hds hr'
      refine ⟨_, rfl, k p (ds ++ [r]) G hH hp ?_⟩
      unfold partM
      exact ListsAt.snoc hr' hds
end
end K15

set_option Elab.async false
set_option linter.all false
set_option maxRecDepth 100000
set_option maxHeartbeats 8000000
/-! Texts, d: tests -/
namespace K15
open PySem L2
/-- a word as it may stand in a text -/
structure WOk (w : Str) : Prop where
  len : w.length ≤ 1000
  num : NumOk w
  sig : PyData.canLay0 (.str w) = true
def WsOk (ws : List Str) : Prop := ∀ w ∈ ws, WOk w
theorem WsOk.two {ws : List Str} (h : WsOk ws) : ∀ w ∈ ws, w.length ≤ 1000 ∧ NumOk w := fun w hw => ⟨(h w hw).len, (h w hw).num⟩
theorem layAll : ∀ {ws : List Str}, WsOk ws → PyData.canLayAll0 (ws.map PyData.str) = true
  | [], _ => rfl
  | w :: ws, h => by
    rw [List.map_cons]
    rw [PyData.canLayAll0, Bool.and_eq_true]
    exact ⟨(h w (List.mem_cons_self ..)).sig, layAll fun x hx => h x (List.mem_cons_of_mem _ hx)⟩
theorem depAll : ∀ ws : List Str, PyData.depthAll (ws.map PyData.str) = 0
  | [] => rfl
  | w :: ws => by
    rw [List.map_cons]
    simp only [PyData.depthAll, PyData.depth, depAll ws]
    decide
theorem shapedWs {ws : List Str} (h : WsOk ws) : SeqAt.shaped (.list (ws.map PyData.str)) = true := by
  unfold SeqAt.shaped
  have h1 : (PyData.list (ws.map PyData.str)).canLay0 = true := by
    simp only [PyData.canLay0]
    exact layAll h
  have h2 : (PyData.list (ws.map PyData.str)).depth ≤ 64 := by
    simp only [PyData.depth, depAll]
    decide
  rw [h1, decide_eq_true h2]
  rfl
theorem eqvWs : ∀ (ws us : List Str), PyData.eqvAll (ws.map PyData.str) (us.map PyData.str) = decide (ws = us)
  | [], [] => rfl
  | [], u :: us => by simp [PyData.eqvAll]
  | w :: ws, [] => by simp [PyData.eqvAll]
  | w :: ws, u :: us => by
    rw [List.map_cons, List.map_cons, PyData.eqvAll, eqvWs ws us]
    by_cases e : w = u
    · subst e
      by_cases e2 : ws = us
      · subst e2
        simp [PyData.eqv]
      · simp [PyData.eqv, e2]
    · simp [PyData.eqv, e]
theorem eqvL (ws us : List Str) : PyData.eqv (.list (ws.map PyData.str)) (.list (us.map PyData.str)) = decide (ws = us) := by
  rw [PyData.eqv]
  exact eqvWs ws us
theorem dpWs {K : PySem.W.Frag} {H : Hp} : ∀ ws : List Str, DpAll K H (ws.map V.str) (ws.map PyData.str)
  | [] => .nil
  | w :: ws => .cons (.str w) (dpWs ws)
theorem cut_hi (ws : List Str) (n : Nat) : cutV (ws.map V.str) none (some (n : Int)) = (ws.take n).map V.str := by
  unfold cutV
  rw [HT.sIx_nat, HT.sIx_none, List.length_map, Nat.sub_zero, List.drop_zero, List.map_take]
  rcases Nat.le_total n ws.length with h | h
  · rw [Nat.min_eq_left h]
  · rw [Nat.min_eq_right h, List.take_of_length_le (by rw [List.length_map]; exact Nat.le_refl _), List.take_of_length_le (by rw [List.length_map]; exact h)]
theorem cut_lo (ws : List Str) (n : Nat) : cutV (ws.map V.str) (some (n : Int)) none = (ws.drop n).map V.str := by
  unfold cutV
  rw [HT.sIx_nat, HT.sIx_none, List.length_map, List.map_drop]
  rw [List.take_of_length_le (by rw [List.length_drop, List.length_map]; exact Nat.le_refl _)]
  rcases Nat.le_total n ws.length with h | h
  · rw [Nat.min_eq_left h]
  · rw [Nat.min_eq_right h, List.drop_of_length_le (by rw [List.length_map]; exact Nat.le_refl _), List.drop_of_length_le (by rw [List.length_map]; exact h)]
/-! ### the tests -/
/-- one part of a test -/
def partD (pm : List Str → Option PyData) (part : List Str) : Option PyData := (pm (if part.take 1 ≠ [("not" : Str)] then part else part.drop 1)).map fun d => .tuple [.bool (decide (part.take 1 ≠ [("not" : Str)])), d]
def partsGo (pm : List Str → Option PyData) : List (List Str) → List PyData → Option (List PyData)
  | [], acc => some acc
  | p :: r, acc => match partD pm p with
    | none => none
    | some d => partsGo pm r (acc ++ [d])
def testM (pm : List Str → Option PyData) (ws : List Str) : Option PyData := if 4 < (partM ws).length then none else (partsGo pm (partM ws) []).map .tuple
def spPartIn (K : PySem.W.Frag) (kinds : List Str) (pm : Str → List Str → Option PyData) : Sp := fun vs H Q _ => ∃ (a : Addr) (ws : List Str) (kd : Str), vs = [.ref a, .str kd] ∧ kd ∈ kinds ∧ SqL K H a (ws.map V.str) ∧ WsOk ws ∧ ws.length ≤ 1000 ∧
  ∀ (v : V) (H' : Hp), Same H H' → ResD K H' v (pm kd ws) → Q v H'
def spTestIn (K : PySem.W.Frag) (fP : Addr) (kinds : List Str) (pm : Str → List Str → Option PyData) : Sp := fun vs H Q _ => ∃ (a : Addr) (ws : List Str) (kd : Str), vs = [.ref a, .ref fP, .str kd] ∧ kd ∈ kinds ∧ SqL K H a (ws.map V.str) ∧ WsOk ws ∧ ws.length ≤ 1000 ∧
  ∀ (v : V) (H' : Hp), Same H H' → ResD K H' v (testM (pm kd) ws) → Q v H'
theorem partGo_mem (ws : List Str) : ∀ (p : List (List Str) × List Str), (∀ l ∈ p.1, ∀ w ∈ l, WOk w) → (∀ w ∈ p.2, WOk w) → WsOk ws → (∀ l ∈ (ws.foldl partStep p).1, ∀ w ∈ l, WOk w) ∧ ∀ w ∈ (ws.foldl partStep p).2, WOk w := by
  induction ws with
  | nil => intro p h1 h2 _; exact ⟨h1, h2⟩
  | cons w ws ih =>
    intro p h1 h2 hw
    rw [List.foldl_cons]
    refine ih _ ?_ ?_ fun x hx => hw x (List.mem_cons_of_mem _ hx)
    · unfold partStep
      split
      · intro l hl
        rcases List.mem_append.mp hl with z | z
        · exact h1 l z
        · rw [List.mem_singleton.mp z]
          exact h2
      · exact h1
    · unfold partStep
      split
      · intro x hx
        cases hx
      · intro x hx
        rcases List.mem_append.mp hx with z | z
        · exact h2 x z
        · rw [List.mem_singleton.mp z]
          exact hw w (List.mem_cons_self ..)
theorem partM_ok {ws : List Str} (h : WsOk ws) : ∀ l ∈ partM ws, WsOk l := by
  obtain ⟨h1, h2⟩ := partGo_mem ws ([], []) (by simp) (by simp) h
  intro l hl
  unfold partM at hl
  rcases List.mem_append.mp hl with z | z
  · exact h1 l z
  · rw [List.mem_singleton.mp z]
    exact h2
theorem partGo_len (ws : List Str) : ∀ (p : List (List Str) × List Str) (n : Nat), (∀ l ∈ p.1, l.length ≤ n) → p.2.length ≤ n → (∀ l ∈ (ws.foldl partStep p).1, l.length ≤ n + ws.length) ∧ (ws.foldl partStep p).2.length ≤ n + ws.length := by
  induction ws with
  | nil => intro p n h1 h2; exact ⟨h1, h2⟩
  | cons w ws ih =>
    intro p n h1 h2
    rw [List.foldl_cons]
    have := ih (partStep p w) (n + 1) (by
      unfold partStep
      split
      · intro l hl
        rcases List.mem_append.mp hl with z | z
        · exact Nat.le_succ_of_le (h1 l z)
        · rw [List.mem_singleton.mp z]
          exact Nat.le_succ_of_le h2
      · intro l hl
        exact Nat.le_succ_of_le (h1 l hl)) (by
      unfold partStep
      split
      · exact Nat.zero_le _
      · rw [List.length_append]
        exact Nat.succ_le_succ h2)
    rw [List.length_cons]
    refine ⟨fun l hl => by have := this.1 l hl; omega, by have := this.2; omega⟩
theorem partM_len {ws : List Str} : ∀ l ∈ partM ws, l.length ≤ ws.length := by
  obtain ⟨h1, h2⟩ := partGo_len ws ([], []) 0 (by simp) (by simp)
  intro l hl
  unfold partM at hl
  rcases List.mem_append.mp hl with z | z
  · have := h1 l z
    unfold partGo at z
    omega
  · rw [List.mem_singleton.mp z]
    unfold partGo
    omega
section
variable {P : Program} {w : World} {K : PySem.W.Frag} {mg : Str → Option Value} {base : Heap}
theorem scTest : FnScope ["words", "part_in", "kind", "parts", "test", "part", "wanted", "read"] ["words", "part_in", "kind"] (defScope sTest) := ⟨rfl, rfl, rfl, by decide +kernel, rfl, by decide +kernel, by decide +kernel⟩
theorem ok_test {f fP fD : Addr} {fd fdP fdD : FuncData} {k : Nat} {kinds : List Str} {pm : Str → List Str → Option PyData} (F : Fun K "test_in" "test_in" sTest f fd) (T : TxtN mg)
    (GD : FnOk P w K mg base CX0 1 fD fdD ["words"] (spParted K)) (kD : PySem.W.keepIn K (.ref fD) = true) (bD : Binds K fdD ["words"] []) (gD : mg "parted" = some (.ref fD))
    (hk : 1 ≤ k) (GP : FnOk P w K mg base CX0 k fP fdP ["words", "kind"] (spPartIn K kinds pm)) (kP : PySem.W.keepIn K (.ref fP) = true) (bP : Binds K fdP ["words", "kind"] []) : FnOk P w K mg base CX0 (k + 1) f fd ["words", "part_in", "kind"] (spTestIn K fP kinds pm) := by
  obtain ⟨tk, hparts⟩ := T.parts
  refine F.ok scTest (fun vs H Q E h => ?_) (fun cdv A outer s H vs Q E hr h => ?_)
  · obtain ⟨a, ws, kd, rfl, _⟩ := h
    rfl
  · obtain ⟨a, ws, kd, rfl, hkd, ha, hok, hlen, kk⟩ := h
    have hr1 : Room 1 _ := hr.mono hk
    refine ⟨_, pss_cons (ps_set (i := 3) scTest.nd rfl (Or.inl rfl) (pe_call GD hr1 rfl gD kD bD .nil pass0 (pa_cons (pv 0) pa_nil)))
      (pss_cons (ps_if (pt_cmpR op_gt (pe_callB call_len_seq (by rfl) T.len PySem.boot_len (pa_cons (pv 3) pa_nil)) (pe_glob (v := .int 4) (by rfl) hparts ⟨tk, rfl⟩) (nomark _)) (pss_one (ps_ret pe_non)) pss_nil)
      (pss_cons (ps_set (i := 4) scTest.nd rfl (Or.inl rfl) (pe_lst pa_nil))
      (pss_cons (ps_for PassesOwn.never rfl (pi_list (pv 3)) (pg_name (i := 5) scTest.nd rfl (Or.inl rfl))
        (pss_cons (ps_set (i := 6) scTest.nd rfl (Or.inl rfl) (pe_cmpR (op_neD hr.units) (pe_slice sl_list (pv 5) po_none (po_some pe_int)) (pe_lst (pa_cons pe_str pa_nil)) (nomark _)))
        (pss_cons (ps_set (i := 7) scTest.nd rfl (Or.inl rfl) (pe_callL (i := 1) GP hr rfl (Or.inl rfl) kP bP .nil pass0 (pa_cons (pe_ifExp (pt_val (pv 6)) (pv 5) (pe_slice sl_list (pv 5) (po_some pe_int) po_none)) (pa_cons (pv 2) pa_nil))))
        (pss_cons (ps_if (pt_cmpR op_isN (pv 7) pe_non (nomark _)) (pss_one (ps_ret pe_non)) pss_nil)
        (pss_one (ps_expr (pe_bm PySem.F.plainAttrs_list PySem.F.slot_list_append PySem.F.type_list_append mt_append (pv 4) (pa_cons (pe_tup (pa_cons (pv 6) (pa_cons (pv 7) pa_nil))) pa_nil))))))))
      (pss_one (ps_ret (pe_callTy call_tuple_of (by rfl) T.tuple (by decide +kernel) (pa_cons (pv 4) pa_nil))))))), ?_⟩
    refine ⟨_, rfl, a, ws, rfl, ha, hlen, fun p rs H1 s1 hp hrs => ?_⟩
    have hn : rs.length = (partM ws).length := Paired.length hrs
    refine ⟨_, rfl, p, _, rfl, .inl (SqL.of hp), _, _, rfl, rfl, _, rfl, ?_⟩
    refine ite2 (fun h4 => ?_) (fun h4 => ?_)
    · have h4' := of_decide_eq_true h4
      rw [List.length_map, hn] at h4'
      refine kk _ _ s1 ?_
      unfold testM
      rw [if_pos (by omega)]
      rfl
    have h4' : ¬ 4 < (partM ws).length := fun z => h4 (decide_eq_true (by rw [List.length_map, hn]; omega))
    have hM : testM (pm kd) ws = (partsGo (pm kd) (partM ws) []).map .tuple := by
      unfold testM
      rw [if_neg h4']
    refine ⟨(by show 0 ≤ sizeLine; decide), fun T0 nT => ?_⟩
    have sT := Same.new (o := .lst []) nT
    have T0p : p ≠ T0 := ne_of_none hp nT
    have H1T : H1 T0 = none := nT
    refine ⟨_, rfl, p, rfl, ⟨_, SqL.of (sT _ _ hp)⟩, for_list (K := K) (a := p) (xs := rs.map V.ref)
      (fun i σ G => ∃ (acc : List PyData) (ts : List Addr) (v5 v6 v7 : Option V), σ = [some (.ref a), some (.ref fP), some (.str kd), some (.ref p), some (.ref T0), v5, v6, v7] ∧ Same H1 G ∧ G T0 = some (.lst (ts.map V.ref)) ∧ TDpAll K G (ts.map V.ref) acc ∧ partsGo (pm kd) (partM ws) [] = partsGo (pm kd) ((partM ws).drop i) acc ∧ acc.length = i)
      ⟨[], [], none, none, none, rfl, sT, upd_same, .nil, rfl, rfl⟩ (fun i σ G _ ⟨_, _, _, _, _, _, e, _⟩ => SqL.of (e _ _ hp)) ?_ ?_⟩
    · rintro i y σ G hi ⟨acc, ts, v5, v6, v7, rfl, hG, hT, hD, hgo, hacc⟩
      obtain ⟨r, hri, rfl⟩ : ∃ r, rs[i]? = some r ∧ y = V.ref r := by
        rw [List.getElem?_map] at hi
        cases e : rs[i]? with
        | none => rw [e] at hi; cases hi
        | some x => rw [e] at hi; exact ⟨x, rfl, (Option.some.inj hi).symm⟩
      obtain ⟨l, hl, hr'⟩ := ListsAt.get hrs hri
      have lok : WsOk l := partM_ok hok l (List.mem_of_getElem? hl)
      have llen : l.length ≤ 1000 := Nat.le_trans (partM_len l (List.mem_of_getElem? hl)) hlen
      rw [drop_cons hl] at hgo
      have hil : i < rs.length := (List.getElem?_eq_some_iff.mp hri).1
      have Gr := hG _ _ hr'
      have c1 : cutV (l.map V.str) none (some 1) = (l.take 1).map V.str := cut_hi l 1
      have c2 : cutV (l.map V.str) (some 1) none = (l.drop 1).map V.str := cut_lo l 1
      refine ⟨_, rfl, _, rfl, r, _, rfl, SqL.of Gr, fun q nq => ⟨(by show 1 ≤ sizeLine; decide), fun q2 nq2 => ?_⟩⟩
      rw [c1] at nq2 ⊢
      have sq := Same.new (o := .lst ((l.take 1).map V.str)) nq
      have sq2 := Same.new (o := .lst [.str "not"]) nq2
      have lt1 : WsOk (l.take 1) := fun w hw => lok w (List.mem_of_mem_take hw)
      refine ⟨.list ((l.take 1).map PyData.str), .list ([("not" : Str)].map PyData.str), .lst (SqL.of (sq2 _ _ upd_same)) (dpWs _), .lst (SqL.of (xs := [("not" : Str)].map V.str) upd_same) (dpWs _), shapedWs lt1, by decide +kernel, ?_⟩
      rw [eqvL]
      have sG := sq.trans sq2
      have Gr2 := sG _ _ Gr
      have hT2 := sG _ _ hT
      have hD2 := hD.keep (Same.tk sG)
      have h12 := hG.trans sG
      obtain ⟨wt, hwt⟩ : ∃ wt : Bool, wt = decide (l.take 1 ≠ [("not" : Str)]) := ⟨_, rfl⟩
      have ewt : (!decide (l.take 1 = [("not" : Str)])) = wt := by
        rw [hwt]
        by_cases e : l.take 1 = [("not" : Str)] <;> simp [e]
      rw [ewt]
      have goP : partsGo (pm kd) (l :: (partM ws).drop (i + 1)) acc = match (pm kd (if l.take 1 ≠ [("not" : Str)] then l else l.drop 1)).map fun d => PyData.tuple [.bool wt, d] with
          | none => none
          | some d => partsGo (pm kd) ((partM ws).drop (i + 1)) (acc ++ [d]) := by
        rw [hwt]
        rfl
      rw [goP] at hgo
      by_cases e1 : l.take 1 = [("not" : Str)]
      · have ew : wt = false := by
          rw [hwt]
          exact decide_eq_false fun z => z e1
        subst ew
        have el : (if l.take 1 ≠ [("not" : Str)] then l else l.drop 1) = l.drop 1 := if_neg fun z => z e1
        rw [el] at hgo
        refine ⟨rfl, _, rfl, _, rfl, ?_⟩
        refine iteF ?_
        refine ⟨_, rfl, _, rfl, r, _, rfl, SqL.of Gr2, fun q3 nq3 => ?_⟩
        rw [c2]
        have s3 := Same.new (o := .lst ((l.drop 1).map V.str)) nq3
        have h13 := h12.trans s3
        have hT3 := s3 _ _ hT2
        have hD3 := hD2.keep (Same.tk s3)
        refine ⟨_, rfl, q3, l.drop 1, kd, rfl, hkd, SqL.of upd_same, (fun w hw => lok w (List.mem_of_mem_drop hw)), (by rw [List.length_drop]; omega), fun v G4 s4 res => ?_⟩
        have h4 := h13.trans s4
        have hT4 := s4 _ _ hT3
        have hD4 := hD3.keep (Same.tk s4)
        refine ⟨_, rfl, rfl, _, rfl, ?_⟩
        cases o : pm kd (l.drop 1) with
        | none =>
          rw [o] at res hgo
          refine ifT3 (decide_eq_true res) ?_
          refine kk _ _ (s1.trans h4) ?_
          rw [hM, hgo]
          rfl
        | some d =>
          rw [o] at res hgo
          have hgo2 : partsGo (pm kd) (partM ws) [] = partsGo (pm kd) ((partM ws).drop (i + 1)) (acc ++ [.tuple [.bool false, d]]) := hgo
          refine ifF3 (decide_eq_false res.1) ?_
          refine ⟨_, rfl, .inl ⟨rfl, _, SqL.of hT4⟩, _, rfl, _, rfl, (by show 2 ≤ sizeLine; decide), fun t nt => ?_⟩
          have st := Same.new (o := .tup [.bl false, v]) nt
          have hT5 := st _ _ hT4
          have nTt : T0 ≠ t := ne_of_none hT4 nt
          refine ⟨T0, _, _, rfl, rfl, hT5, small1000 (by rw [TDpAll.len hD, hacc]; omega), ?_⟩
          refine ⟨acc ++ [.tuple [.bool false, d]], ts ++ [t], _, _, _, rfl, Same.write (h4.trans st) H1T, by rw [List.map_append]; exact upd_same, ?_, hgo2, by rw [List.length_append, hacc]; rfl⟩
          rw [List.map_append]
          refine TDpAll.snoc ?_ ((hD4.keep (Same.tk st)).keep (Tk.write hT5))
          refine .tup (SqT.of ?_) (.cons (.bl _) (.cons ((res.2.keep (Same.tk st)).keep (Tk.write hT5)) .nil))
          rw [upd_ne nTt.symm]
          exact upd_same
      · have ew : wt = true := by
          rw [hwt]
          exact decide_eq_true e1
        subst ew
        have el : (if l.take 1 ≠ [("not" : Str)] then l else l.drop 1) = l := if_pos e1
        rw [el] at hgo
        refine ⟨rfl, _, rfl, _, rfl, ?_⟩
        refine iteT ?_
        refine ⟨_, rfl, _, rfl, r, l, kd, rfl, hkd, SqL.of Gr2, lok, llen, fun v G4 s4 res => ?_⟩
        have h4 := h12.trans s4
        have hT4 := s4 _ _ hT2
        have hD4 := hD2.keep (Same.tk s4)
        refine ⟨_, rfl, rfl, _, rfl, ?_⟩
        cases o : pm kd (l) with
        | none =>
          rw [o] at res hgo
          refine ifT3 (decide_eq_true res) ?_
          refine kk _ _ (s1.trans h4) ?_
          rw [hM, hgo]
          rfl
        | some d =>
          rw [o] at res hgo
          have hgo2 : partsGo (pm kd) (partM ws) [] = partsGo (pm kd) ((partM ws).drop (i + 1)) (acc ++ [.tuple [.bool true, d]]) := hgo
          refine ifF3 (decide_eq_false res.1) ?_
          refine ⟨_, rfl, .inl ⟨rfl, _, SqL.of hT4⟩, _, rfl, _, rfl, (by show 2 ≤ sizeLine; decide), fun t nt => ?_⟩
          have st := Same.new (o := .tup [.bl true, v]) nt
          have hT5 := st _ _ hT4
          have nTt : T0 ≠ t := ne_of_none hT4 nt
          refine ⟨T0, _, _, rfl, rfl, hT5, small1000 (by rw [TDpAll.len hD, hacc]; omega), ?_⟩
          refine ⟨acc ++ [.tuple [.bool true, d]], ts ++ [t], _, _, _, rfl, Same.write (h4.trans st) H1T, by rw [List.map_append]; exact upd_same, ?_, hgo2, by rw [List.length_append, hacc]; rfl⟩
          rw [List.map_append]
          refine TDpAll.snoc ?_ ((hD4.keep (Same.tk st)).keep (Tk.write hT5))
          refine .tup (SqT.of ?_) (.cons (.bl _) (.cons ((res.2.keep (Same.tk st)).keep (Tk.write hT5)) .nil))
          rw [upd_ne nTt.symm]
          exact upd_same
    · rintro σ G ⟨acc, ts, v5, v6, v7, rfl, hG, hT, hD, hgo, hacc⟩
      refine ⟨_, rfl, T0, _, rfl, .inl ⟨SqL.of hT, fun q nq => ?_⟩⟩
      have sq := Same.new (o := .tup (ts.map V.ref)) nq
      refine kk _ _ ((s1.trans hG).trans sq) ?_
      rw [hM, hgo, List.drop_eq_nil_of_le (by rw [List.length_map, hn]; exact Nat.le_refl _)]
      exact ⟨(by intro z; cases z), .tup (SqT.of upd_same) (hD.keep (Same.tk sq))⟩
end
end K15

set_option Elab.async false
set_option linter.all false
set_option maxRecDepth 100000
set_option maxHeartbeats 8000000
/-! Block codes, a: names, what a line does, as told in words alone -/
namespace L2
open PySem PySem.Spec PyProof.Rows
/-- x in (a, b, ..), data of any depth -/
def rInDT (K : PySem.W.Frag) : R2 := fun x y H Q => ∃ d ds, Dp K H x d ∧ Dp K H y (.tuple ds) ∧ SeqAt.shaped d = true ∧ SeqAt.shaped (.tuple ds) = true ∧ Q (.bl (ds.any fun z => PyData.eqv z d)) H
theorem op_inDT {X : Cx} (room : X.A.units + 65 < cLine) : OpR X (compareOp .In) (rInDT X.K) := by
  intro pins s σ H x y v u Q I rx ry h
  obtain ⟨d, ds, hd, he, sd, se, q⟩ := h
  have ⟨_, rd⟩ := Dp.reads I d x v hd rx
  have ⟨_, rt⟩ := Dp.reads I (.tuple ds) y u he ry
  refine SeqAt.in_tuple_reads rt rd (SeqAt.canLay_of_shaped se) (SeqAt.canLay_of_shaped sd) (room_in_shaped sd room) ?_
  exact ⟨.bl _, H, I, rfl, q⟩
end L2
namespace K15
open PySem L2
abbrev sReg : Stmt := top 46
abbrev sPlace : Stmt := top 47
abbrev sSized : Stmt := top 48
abbrev sFlag : Stmt := top 49
abbrev sTie : Stmt := top 50
abbrev sStep : Stmt := top 51
abbrev sHPart : Stmt := top 52
abbrev sMarks : Stmt := top 53
abbrev sForeign : Stmt := top 54
def kindsL : List Str := ["free", "take", "grow", "cut"]
def regsL : List Str := ["a", "b", "c"]
def placesL : List Str := ["p", "q", "r", "s"]
def knownL : List Str := ["own", "p", "q", "r", "s"]
def linkedL : List Str := ["own", "p", "q", "r", "s", "bin"]
def namesL : List Str := ["a", "b", "c", "want", "unit", "least"]
def linksL : List Str := ["next", "prev"]
def writingL : List Str := ["head", "resize", "flag", "foot", "tie"]
def flagM (w : Str) : Option Bool := if w = "used" then some true else if w = "free" then some false else none
structure TxtC (K : PySem.W.Frag) (w : World) (mg : Str → Option Value) : Prop where
  bk : ∃ c, mg "BLOCK_KINDS" = some (.ref c) ∧ ∀ H, SqT K H c (kindsL.map V.str)
  rg : ∃ c, mg "REGISTERS" = some (.ref c) ∧ ∀ H, SqT K H c (regsL.map V.str)
  pl : ∃ c, mg "PLACES" = some (.ref c) ∧ ∀ H, SqT K H c (placesL.map V.str)
  kn : ∃ c, mg "KNOWN" = some (.ref c) ∧ ∀ H, SqT K H c (knownL.map V.str)
  lk : ∃ c, mg "LINKED" = some (.ref c) ∧ ∀ H, SqT K H c (linkedL.map V.str)
  nm : ∃ c, mg "NAMES" = some (.ref c) ∧ ∀ H, SqT K H c (namesL.map V.str)
  ln : ∃ c, mg "LINKS" = some (.ref c) ∧ ∀ H, SqT K H c (linksL.map V.str)
  wr : ∃ c, mg "WRITING" = some (.ref c) ∧ ∀ H, SqT K H c (writingL.map V.str)
  fl : ∃ c es n, mg "FLAGS" = some (.ref c) ∧ KDict K w c es n ∧ ∀ z : Str, PySem.W.nsIn K c z = some ((flagM z).map Value.bool)
/-- the i-th word -/
def wd (ws : List Str) (i : Nat) : Str := ws.getD i Str.empty
def regM (ws : List Str) : Option PyData := if ws.length = 4 ∧ wd ws 2 = "size" ∧ wd ws 3 ∈ knownL then some (.tuple [.str "size", .str (wd ws 0), .str (wd ws 3)]) else
  if ws.length = 5 ∧ wd ws 2 = "size" ∧ wd ws 3 = "ahead" ∧ wd ws 4 ∈ knownL then some (.tuple [.str "size ahead", .str (wd ws 0), .str (wd ws 4)]) else
  (sumM (ws.drop 2) namesL).map fun acc => .tuple [.str "set", .str (wd ws 0), sumD acc]
def placeM (ws : List Str) : Option PyData := if ws.length = 4 ∧ wd ws 2 ∈ linksL ∧ wd ws 3 ∈ linkedL then some (.tuple [.str "link", .str (wd ws 0), .str (wd ws 2), .str (wd ws 3)]) else
  if ws.length < 3 ∨ ¬ wd ws 2 ∈ knownL then none else
  if ws.length = 3 then some (.tuple [.str "copy", .str (wd ws 0), .str (wd ws 2)]) else
  if ¬ (wd ws 3 = "+" ∨ wd ws 3 = "-") then none else
  (sumM (ws.drop 4) namesL).map fun acc => .tuple [.str "go", .str (wd ws 0), .str (wd ws 2), .int (if wd ws 3 = "+" then 1 else -1), sumD acc]
def headM (w1 : Str) : Option Acc → Option Bool → Option Bool → Option PyData
  | some acc, some u, some v => some (.tuple [.str "head", .str w1, sumD acc, .bool u, .bool v])
  | _, _, _ => none
def sizedM (ws : List Str) : Option PyData := if ws.length < 4 ∨ ¬ wd ws 1 ∈ knownL ∨ ¬ wd ws 2 = "=" then none else
  if wd ws 0 = "head" then
    headM (wd ws 1) (sumM ((ws.drop 3).take (ws.length - 5)) namesL) (flagM (wd ws (ws.length - 2))) (flagM (wd ws (ws.length - 1)))
  else (sumM (ws.drop 3) namesL).map fun acc => .tuple [.str (if wd ws 0 = "size" then "resize" else "foot"), .str (wd ws 1), sumD acc]
def flagStepM (ws : List Str) : Option PyData :=
  let which : Str := if wd ws 0 = "ahead" then "ahead" else "used"
  let rest : List Str := if wd ws 0 = "ahead" then ws.drop 1 else ws
  if rest.length = 2 ∧ wd rest 1 ∈ knownL then (flagM (wd rest 0)).map fun u => .tuple [.str "flag", .str (wd rest 1), .str which, .bool u] else none
def tieM (ws : List Str) : Option PyData := if ws.length = 4 ∧ wd ws 1 ∈ linkedL ∧ wd ws 2 = "=" ∧ wd ws 3 ∈ linkedL then some (.tuple [.str "tie", .str (wd ws 0), .str (wd ws 1), .str (wd ws 3)]) else none
def stepM (_kd : Str) (ws : List Str) : Option PyData := if ws = [("quit" : Str)] ∨ ws = [("no" : Str)] then some (.tuple [.str (wd ws 0)]) else
  if 2 ≤ ws.length ∧ wd ws 1 = "=" then (if wd ws 0 ∈ regsL then regM ws else if wd ws 0 ∈ placesL then placeM ws else none) else
  if wd ws 0 ∈ [("head" : Str), "size", "foot"] then sizedM ws else
  if wd ws 0 ∈ [("used" : Str), "free", "ahead"] then flagStepM ws else
  if wd ws 0 ∈ linksL then tieM ws else none
def hPartM (_kd : Str) (ws : List Str) : Option PyData := if ws.length = 2 ∧ wd ws 0 = "used" ∧ wd ws 1 ∈ knownL then some (.tuple [.str "used", .str (wd ws 1)]) else
  if ws.length = 3 ∧ wd ws 0 = "ahead" ∧ wd ws 1 = "used" ∧ wd ws 2 ∈ knownL then some (.tuple [.str "ahead", .str (wd ws 2)]) else
  if ws.length = 3 ∧ wd ws 1 = "is" ∧ wd ws 2 = "bin" ∧ wd ws 0 ∈ knownL then some (.tuple [.str "bin", .str (wd ws 0)]) else
  compM ws namesL
/-- one of the makers of steps, asked for words -/
def spWords (K : PySem.W.Frag) (pre : List Str → Prop) (sm : List Str → Option PyData) : Sp := fun vs H Q _ => ∃ (a : Addr) (ws : List Str), vs = [.ref a] ∧ SqL K H a (ws.map V.str) ∧ WsOk ws ∧ pre ws ∧ ws.length ≤ 1000 ∧
  ∀ (v : V) (H' : Hp), Same H H' → ResD K H' v (sm ws) → Q v H'
def spStepIn (K : PySem.W.Frag) (kinds : List Str) (sm : Str → List Str → Option PyData) : Sp := fun vs H Q _ => ∃ (a : Addr) (ws : List Str) (kd : Str), vs = [.ref a, .str kd] ∧ kd ∈ kinds ∧ SqL K H a (ws.map V.str) ∧ WsOk ws ∧ ws ≠ [] ∧ ws.length ≤ 1000 ∧
  ∀ (v : V) (H' : Hp), Same H H' → ResD K H' v (sm kd ws) → Q v H'
theorem at_pos {ws : List Str} {i : Nat} (h : i < ws.length) : atI (ws.map V.str) (i : Int) = some (.str (ws.getD i Str.empty)) :=
  atI_nat (by rw [List.getElem?_map, List.getD_eq_getElem?_getD, List.getElem?_eq_getElem h]; rfl)
theorem at_neg {ws : List Str} {i : Nat} (h0 : 0 < i) (h : i ≤ ws.length) : atI (ws.map V.str) (-(i : Int)) = some (.str (ws.getD (ws.length - i) Str.empty)) := by
  have e : ixN (ws.map V.str).length (-(i : Int)) = some (ws.length - i) := by
    unfold ixN
    rw [List.length_map]
    rw [if_neg (by omega), if_pos (by omega)]
    congr 1
    omega
  unfold atI
  rw [e]
  show (ws.map V.str)[ws.length - i]? = _
  rw [List.getElem?_map, List.getD_eq_getElem?_getD, List.getElem?_eq_getElem (by omega)]
  rfl
theorem getD_mem {ws : List Str} {i : Nat} (h : i < ws.length) : ws.getD i Str.empty ∈ ws := by
  rw [List.getD_eq_getElem?_getD, List.getElem?_eq_getElem h]
  exact List.getElem_mem h
theorem wd_at {ws : List Str} {i : Nat} (h : i < ws.length) : atI (ws.map V.str) (i : Int) = some (.str (wd ws i)) := at_pos h
theorem wd_mem {ws : List Str} {i : Nat} (h : i < ws.length) : wd ws i ∈ ws := getD_mem h
theorem dec_len {ws : List Str} {n : Nat} : decide (V.int (((ws.map V.str).length : Nat) : Int) = V.int (n : Int)) = decide (ws.length = n) := by
  rw [List.length_map]
  by_cases h : ws.length = n
  · rw [decide_eq_true h, h]; exact decide_eq_true rfl
  · rw [decide_eq_false h]; exact decide_eq_false fun z => h (by have := V.int.inj z; omega)
theorem dec_str {x y : Str} : decide (V.str x = V.str y) = decide (x = y) := by
  by_cases h : x = y
  · rw [decide_eq_true h, h]; exact decide_eq_true rfl
  · rw [decide_eq_false h]; exact decide_eq_false fun z => h (V.str.inj z)
end K15

set_option Elab.async false
set_option linter.all false
set_option maxRecDepth 100000
set_option maxHeartbeats 8000000
/-! Block codes, b: a register's line -/
namespace K15
open PySem L2
/-- a test that tells whether p; nothing that stands is changed -/
def Says (A : TT) (σ : L2.St) (H : Hp) (p : Prop) [Decidable p] : Prop := ∀ Q : Bool → Hp → Prop, (∀ G, Same H G → Q (decide p) G) → A σ H Q
section
variable {A B : TT} {σ : L2.St} {H : Hp} {p q : Prop} [Decidable p] [Decidable q]
theorem Says.and (ha : Says A σ H p) (hb : ∀ G, Same H G → p → Says B σ G q) : Says (tAnd A B) σ H (p ∧ q) := fun Q h => ha _ fun G s => by
  by_cases c : p
  · rw [if_pos (decide_eq_true c)]
    exact hb G s c Q fun G2 s2 => by rw [show decide q = decide (p ∧ q) from decide_eq_decide.mpr ⟨fun z => ⟨c, z⟩, fun z => z.2⟩]; exact h G2 (s.trans s2)
  · rw [if_neg (by rw [decide_eq_false c]; decide)]
    have z := h G s
    rw [decide_eq_false (fun z : p ∧ q => c z.1)] at z
    exact z
theorem Says.or (ha : Says A σ H p) (hb : ∀ G, Same H G → ¬ p → Says B σ G q) : Says (tOr A B) σ H (p ∨ q) := fun Q h => ha _ fun G s => by
  by_cases c : p
  · rw [if_pos (decide_eq_true c)]
    have z := h G s
    rw [decide_eq_true (.inl c : p ∨ q)] at z
    exact z
  · rw [if_neg (by rw [decide_eq_false c]; decide)]
    exact hb G s c Q fun G2 s2 => by rw [show decide q = decide (p ∨ q) from decide_eq_decide.mpr ⟨.inr, fun z => z.resolve_left c⟩]; exact h G2 (s.trans s2)
theorem Says.ite {t e : TS} {D : Ends} (ha : Says A σ H p) (ht : ∀ G, Same H G → p → t D σ G) (he : ∀ G, Same H G → ¬ p → e D σ G) : tIfS A t e D σ H := ha _ fun G s => by
  by_cases c : p
  · rw [if_pos (decide_eq_true c)]
    exact ht G s c
  · rw [if_neg (by rw [decide_eq_false c]; decide)]
    exact he G s c
end
theorem sq {a b : TS} {D : Ends} {σ : L2.St} {H : Hp} (h : a { D with nx := fun σ' H' => b D σ' H' } σ H) : tSeq a b D σ H := h
theorem nxt {D : Ends} {σ : L2.St} {H : Hp} (h : D.nx σ H) : tNext D σ H := h
theorem dec_lt {ws : List Str} {n : Nat} : decide ((((ws.map V.str).length : Nat) : Int) < ((n : Nat) : Int)) = decide (ws.length < n) := by
  rw [List.length_map]
  exact decide_eq_decide.mpr ⟨fun h => by omega, fun h => by omega⟩
theorem cut_two (ws : List Str) (i j : Nat) (h : j ≤ ws.length) (hij : i ≤ j) : cutV (ws.map V.str) (some (i : Int)) (some (j : Int)) = ((ws.drop i).take (j - i)).map V.str := by
  unfold cutV
  rw [HT.sIx_nat, HT.sIx_nat, List.length_map, Nat.min_eq_left h, Nat.min_eq_left (Nat.le_trans hij h), List.map_take, List.map_drop]
theorem two_wd {ws : List Str} {i : Nat} (h : i + 2 ≤ ws.length) : (ws.drop i).take 2 = [wd ws i, wd ws (i + 1)] := by
  unfold wd
  rw [List.getD_eq_getElem?_getD, List.getD_eq_getElem?_getD, List.getElem?_eq_getElem (by omega), List.getElem?_eq_getElem (by omega)]
  rw [List.drop_eq_getElem_cons (by omega), List.drop_eq_getElem_cons (by omega)]
  rfl
section
variable {P : Program} {w : World} {K : PySem.W.Frag} {mg : Str → Option Value} {base : Heap}
theorem scReg : FnScope ["words", "terms"] ["words"] (defScope sReg) := ⟨rfl, rfl, rfl, by decide +kernel, rfl, by decide +kernel, by decide +kernel⟩
theorem ok_reg {f fS : Addr} {fd fdS : FuncData} (F : Fun K "register_step" "register_step" sReg f fd) (TN : TxtN mg) (T : TxtC K w mg)
    (GS : FnOk P w K mg base CX0 3 fS fdS ["words", "names"] (spSum K)) (kS : PySem.W.keepIn K (.ref fS) = true) (bS : Binds K fdS ["words", "names"] []) (gS : mg "sum_in" = some (.ref fS)) :
    FnOk P w K mg base CX0 4 f fd ["words"] (spWords K (fun ws => 2 ≤ ws.length) regM) := by
  obtain ⟨c1, hc1, hC1⟩ := T.kn
  obtain ⟨c2, hc2, hC2⟩ := T.nm
  refine F.ok scReg (fun vs H Q E h => ?_) (fun cdv A outer s H vs Q E hr h => ?_)
  · obtain ⟨a, ws, rfl, _⟩ := h
    rfl
  · obtain ⟨a, ws, rfl, ha, hok, h2, hlen, k⟩ := h
    refine ⟨_, pss_cons (ps_if (PW.pt (pw_and (pt_cmpR op_eq (pe_callB call_len_seq (by rfl) TN.len PySem.boot_len (pa_cons (pv 0) pa_nil)) pe_int (nomark _)) (pw_and (pt_cmpR op_eq (pe_ix ix_list (pv 0) pe_int (fun _ _ => rfl)) pe_str (nomark _)) (pw_and1 (pt_cmpR op_in_seq (pe_ix ix_list (pv 0) pe_int (fun _ _ => rfl)) (pe_glob (v := .ref c1) (by rfl) hc1 rfl) (by rfl)))))) (pss_one (ps_ret (pe_tup (pa_cons pe_str (pa_cons (pe_ix ix_list (pv 0) pe_int (fun _ _ => rfl)) (pa_cons (pe_ix ix_list (pv 0) pe_int (fun _ _ => rfl)) pa_nil)))))) pss_nil)
      (pss_cons (ps_if (PW.pt (pw_and (pt_cmpR op_eq (pe_callB call_len_seq (by rfl) TN.len PySem.boot_len (pa_cons (pv 0) pa_nil)) pe_int (nomark _)) (pw_and (pt_cmpR (op_eqD hr.units) (pe_slice sl_list (pv 0) (po_some pe_int) (po_some pe_int)) (pe_lst (pa_cons pe_str (pa_cons pe_str pa_nil))) (nomark _)) (pw_and1 (pt_cmpR op_in_seq (pe_ix ix_list (pv 0) pe_int (fun _ _ => rfl)) (pe_glob (v := .ref c1) (by rfl) hc1 rfl) (by rfl)))))) (pss_one (ps_ret (pe_tup (pa_cons pe_str (pa_cons (pe_ix ix_list (pv 0) pe_int (fun _ _ => rfl)) (pa_cons (pe_ix ix_list (pv 0) pe_int (fun _ _ => rfl)) pa_nil)))))) pss_nil)
      (pss_cons (ps_set (i := 1) scReg.nd rfl (Or.inl rfl) (pe_call GS hr rfl gS kS bS .nil pass0 (pa_cons (pe_slice sl_list (pv 0) (po_some pe_int) po_none) (pa_cons (pe_glob (v := .ref c2) (by rfl) hc2 rfl) pa_nil))))
      (pss_one (ps_ret (pe_ifExp (pt_cmpR op_isN (pv 1) pe_non (nomark _)) pe_non (pe_tup (pa_cons pe_str (pa_cons (pe_ix ix_list (pv 0) pe_int (fun _ _ => rfl)) (pa_cons (pv 1) pa_nil))))))))), ?_⟩
    refine Says.ite (Says.and (fun Q h => ⟨_, rfl, a, _, rfl, .inl ha, rfl, _, rfl, by show Q (decide (V.int _ = V.int ((4 : Nat) : Int))) _; rw [dec_len]; exact h _ (Same.refl _)⟩) (fun G1 s1 h1 => (Says.and (fun Q h => ⟨_, rfl, a, _, 2, _, rfl, rfl, (s1.seq ha), wd_at (i := 2) (by omega), rfl, _, rfl, by rw [dec_str]; exact h _ (Same.refl _)⟩) (fun G2 s2 h2 => (fun Q h => ⟨_, rfl, a, _, 3, _, rfl, rfl, (s2.seq (s1.seq ha)), wd_at (i := 3) (by omega), c1, _, rfl, .inr (hC1 _), rfl, flat_str knownL, by rw [if_neg Bool.false_ne_true, inV_str]; exact ⟨_, rfl, h _ (Same.refl _)⟩⟩))))) (fun G1 t1 h1 => ?_) (fun G1 t1 h1 => ?_)
    · obtain ⟨z4, z⟩ := h1
      refine ⟨_, rfl, a, _, 0, _, rfl, rfl, t1.seq ha, wd_at (i := 0) (by omega), _, rfl, a, _, 3, _, rfl, rfl, t1.seq ha, wd_at (i := 3) (by omega), (by show 3 ≤ sizeLine; decide), fun p np => ?_⟩
      refine k _ _ (t1.trans (Same.new np)) ?_
      unfold regM
      rw [if_pos ⟨z4, z⟩]
      exact ⟨(by intro z; cases z), .tup (SqT.of upd_same) (.cons (.str _) (.cons (.str _) (.cons (.str _) .nil)))⟩
    have a1 := t1.seq ha
    have sl : ws.length = 5 → ∀ G, Same G1 G → Says (tTest (tOp (rEqD K) (tSl (rSlL K) (tVar 0) (tPart (tC (V.int 2))) (tPart (tC (V.int 4)))) (tLst (tCons (tC (V.str "size")) (tCons (tC (V.str "ahead")) tNil))))) [some (.ref a), none] G (wd ws 2 = "size" ∧ wd ws 3 = "ahead") := fun z5 G sG Q h => by
      refine ⟨_, rfl, _, rfl, _, rfl, a, _, rfl, sG.seq a1, fun q nq => ?_⟩
      rw [show cutV (ws.map V.str) (some 2) (some 4) = ((ws.drop 2).take 2).map V.str from cut_two ws 2 4 (by omega) (by decide), two_wd (by omega)]
      refine ⟨(by show 2 ≤ sizeLine; decide), fun q2 nq2 => ?_⟩
      have u1 := Same.new (o := .lst ([wd ws 2, wd ws (2 + 1)].map V.str)) nq
      have u2 := Same.new (o := .lst [.str "size", .str "ahead"]) nq2
      refine ⟨.list ([wd ws 2, wd ws (2 + 1)].map PyData.str), .list ([("size" : Str), "ahead"].map PyData.str), .lst (SqL.of (u2 _ _ upd_same)) (dpWs _), .lst (SqL.of (xs := [("size" : Str), "ahead"].map V.str) upd_same) (dpWs _), shapedWs (ws := [wd ws 2, wd ws (2 + 1)]) (fun x hx => ?_), by decide +kernel, ?_⟩
      · rcases List.mem_cons.mp hx with e | e
        · rw [e]; exact hok _ (wd_mem (by omega))
        · rw [List.mem_singleton.mp e]; exact hok _ (wd_mem (by omega))
      · rw [eqvL]
        refine ⟨_, rfl, ?_⟩
        rw [show decide ([wd ws 2, wd ws (2 + 1)] = [("size" : Str), "ahead"]) = decide (wd ws 2 = "size" ∧ wd ws 3 = "ahead") from decide_eq_decide.mpr (by simp)]
        exact h _ (u1.trans u2)
    refine nxt ?_
    dsimp only
    refine Says.ite (p := ws.length = 5 ∧ (wd ws 2 = "size" ∧ wd ws 3 = "ahead") ∧ wd ws 4 ∈ knownL) ?_ (fun G2 t2 h2 => ?_) (fun G2 t2 h2 => ?_)
    · exact (Says.and (fun Q h => ⟨_, rfl, a, _, rfl, .inl a1, rfl, _, rfl, by show Q (decide (V.int _ = V.int ((5 : Nat) : Int))) _; rw [dec_len]; exact h _ (Same.refl _)⟩) fun G2 s2 h2 => Says.and (sl h2 G2 s2) fun G3 s3 h3 => (fun Q h => ⟨_, rfl, a, _, 4, _, rfl, rfl, ((s2.trans s3).seq a1), wd_at (i := 4) (by omega), c1, _, rfl, .inr (hC1 _), rfl, flat_str knownL, by rw [if_neg Bool.false_ne_true, inV_str]; exact ⟨_, rfl, h _ (Same.refl _)⟩⟩))
    · obtain ⟨z5, ⟨z, z'⟩, z''⟩ := h2
      have a2 := t2.seq a1
      refine ⟨_, rfl, a, _, 0, _, rfl, rfl, a2, wd_at (i := 0) (by omega), _, rfl, a, _, 4, _, rfl, rfl, a2, wd_at (i := 4) (by omega), (by show 3 ≤ sizeLine; decide), fun p np => ?_⟩
      refine k _ _ ((t1.trans t2).trans (Same.new np)) ?_
      unfold regM
      rw [if_neg h1, if_pos ⟨z5, z, z', z''⟩]
      exact ⟨(by intro z; cases z), .tup (SqT.of upd_same) (.cons (.str _) (.cons (.str _) (.cons (.str _) .nil)))⟩
    have a2 := t2.seq a1
    refine ⟨_, rfl, _, rfl, a, _, rfl, a2, fun q nq => ?_⟩
    rw [show cutV (ws.map V.str) (some 2) none = (ws.drop 2).map V.str from cut_lo ws 2]
    have u1 := Same.new (o := .lst ((ws.drop 2).map V.str)) nq
    have wok2 : WsOk (ws.drop 2) := fun w hw => hok w (List.mem_of_mem_drop hw)
    refine ⟨q, c2, ws.drop 2, namesL, rfl, SqL.of upd_same, hC2 _, wok2.two, by rw [List.length_drop]; omega, fun v G4 s4 res => ?_⟩
    have sA := (t1.trans t2).trans (u1.trans s4)
    have hM : regM ws = (sumM (ws.drop 2) namesL).map fun acc => .tuple [.str "set", .str (wd ws 0), sumD acc] := by
      unfold regM
      rw [if_neg h1, if_neg (fun z => h2 ⟨z.1, ⟨z.2.1, z.2.2.1⟩, z.2.2.2⟩)]
    refine ⟨_, rfl, rfl, _, rfl, ?_⟩
    cases o : sumM (ws.drop 2) namesL with
    | none =>
      rw [o] at res hM
      have rv : v = .non := res
      subst rv
      exact iteT (k _ _ sA (by rw [hM]; rfl))
    | some acc =>
      rw [o] at res hM
      refine ifF3 (decide_eq_false res.1) ?_
      refine ⟨_, rfl, a, _, 0, _, rfl, rfl, sA.seq ha, wd_at (i := 0) (by omega), _, rfl, (by show 3 ≤ sizeLine; decide), fun p np => ?_⟩
      refine k _ _ (sA.trans (Same.new np)) ?_
      rw [hM]
      exact ⟨(by intro z; cases z), .tup (SqT.of upd_same) (.cons (.str _) (.cons (.str _) (.cons (res.2.keep (Same.tk (Same.new np))) .nil)))⟩
end
end K15

set_option Elab.async false
set_option linter.all false
set_option maxRecDepth 100000
set_option maxHeartbeats 8000000
/-! Block codes, c: a place's line, a tie -/
namespace K15
open PySem L2
section
variable {P : Program} {w : World} {K : PySem.W.Frag} {mg : Str → Option Value} {base : Heap}
theorem scPlace : FnScope ["words", "terms", "times"] ["words"] (defScope sPlace) := ⟨rfl, rfl, rfl, by decide +kernel, rfl, by decide +kernel, by decide +kernel⟩
theorem ok_place {f fS : Addr} {fd fdS : FuncData} (F : Fun K "place_step" "place_step" sPlace f fd) (TN : TxtN mg) (T : TxtC K w mg)
    (GS : FnOk P w K mg base CX0 3 fS fdS ["words", "names"] (spSum K)) (kS : PySem.W.keepIn K (.ref fS) = true) (bS : Binds K fdS ["words", "names"] []) (gS : mg "sum_in" = some (.ref fS)) : FnOk P w K mg base CX0 4 f fd ["words"] (spWords K (fun ws => 2 ≤ ws.length) placeM) := by
  obtain ⟨c1, hc1, hC1⟩ := T.kn
  obtain ⟨c2, hc2, hC2⟩ := T.nm
  obtain ⟨c3, hc3, hC3⟩ := T.ln
  obtain ⟨c4, hc4, hC4⟩ := T.lk
  refine F.ok scPlace (fun vs H Q E h => ?_) (fun cdv A outer s H vs Q E hr h => ?_)
  · obtain ⟨a, ws, rfl, _⟩ := h
    rfl
  · obtain ⟨a, ws, rfl, ha, hok, h2, hlen, k⟩ := h
    refine ⟨_, pss_cons (ps_if (PW.pt (pw_and (pt_cmpR op_eq (pe_callB call_len_seq (by rfl) TN.len PySem.boot_len (pa_cons (pv 0) pa_nil)) pe_int (nomark _)) (pw_and (pt_cmpR op_in_seq (pe_ix ix_list (pv 0) pe_int (fun _ _ => rfl)) (pe_glob (v := .ref c3) (by rfl) hc3 rfl) (by rfl)) (pw_and1 (pt_cmpR op_in_seq (pe_ix ix_list (pv 0) pe_int (fun _ _ => rfl)) (pe_glob (v := .ref c4) (by rfl) hc4 rfl) (by rfl)))))) (pss_one (ps_ret (pe_tup (pa_cons pe_str (pa_cons (pe_ix ix_list (pv 0) pe_int (fun _ _ => rfl)) (pa_cons (pe_ix ix_list (pv 0) pe_int (fun _ _ => rfl)) (pa_cons (pe_ix ix_list (pv 0) pe_int (fun _ _ => rfl)) pa_nil))))))) pss_nil)
      (pss_cons (ps_if (PW.pt (pw_or (pt_cmpR op_lt (pe_callB call_len_seq (by rfl) TN.len PySem.boot_len (pa_cons (pv 0) pa_nil)) pe_int (nomark _)) (pw_or1 (pt_cmpR op_notIn_seq (pe_ix ix_list (pv 0) pe_int (fun _ _ => rfl)) (pe_glob (v := .ref c1) (by rfl) hc1 rfl) (by rfl))))) (pss_one (ps_ret pe_non)) pss_nil)
      (pss_cons (ps_if (pt_cmpR op_eq (pe_callB call_len_seq (by rfl) TN.len PySem.boot_len (pa_cons (pv 0) pa_nil)) pe_int (nomark _)) (pss_one (ps_ret (pe_tup (pa_cons pe_str (pa_cons (pe_ix ix_list (pv 0) pe_int (fun _ _ => rfl)) (pa_cons (pe_ix ix_list (pv 0) pe_int (fun _ _ => rfl)) pa_nil)))))) pss_nil)
      (pss_cons (ps_if (pt_cmpR op_notIn_seq (pe_ix ix_list (pv 0) pe_int (fun _ _ => rfl)) (pe_tup (pa_cons pe_str (pa_cons pe_str pa_nil))) (by rfl)) (pss_one (ps_ret pe_non)) pss_nil)
      (pss_cons (ps_set (i := 1) scPlace.nd rfl (Or.inl rfl) (pe_call GS hr rfl gS kS bS .nil pass0 (pa_cons (pe_slice sl_list (pv 0) (po_some pe_int) po_none) (pa_cons (pe_glob (v := .ref c2) (by rfl) hc2 rfl) pa_nil))))
      (pss_cons (ps_set (i := 2) scPlace.nd rfl (Or.inl rfl) (pe_ifExp (pt_cmpR op_eq (pe_ix ix_list (pv 0) pe_int (fun _ _ => rfl)) pe_str (nomark _)) pe_int (pe_un un_neg pe_int)))
      (pss_one (ps_ret (pe_ifExp (pt_cmpR op_isN (pv 1) pe_non (nomark _)) pe_non (pe_tup (pa_cons pe_str (pa_cons (pe_ix ix_list (pv 0) pe_int (fun _ _ => rfl)) (pa_cons (pe_ix ix_list (pv 0) pe_int (fun _ _ => rfl)) (pa_cons (pv 2) (pa_cons (pv 1) pa_nil)))))))))))))), ?_⟩
    refine Says.ite (Says.and (fun Q h => ⟨_, rfl, a, _, rfl, .inl ha, rfl, _, rfl, by show Q (decide (V.int _ = V.int ((4 : Nat) : Int))) _; rw [dec_len]; exact h _ (Same.refl _)⟩) (fun G1 s1 h1 => (Says.and (fun Q h => ⟨_, rfl, a, _, 2, _, rfl, rfl, (s1.seq ha), wd_at (i := 2) (by omega), c3, _, rfl, .inr (hC3 _), rfl, flat_str linksL, by rw [if_neg Bool.false_ne_true, inV_str]; exact ⟨_, rfl, h _ (Same.refl _)⟩⟩) (fun G2 s2 h2 => (fun Q h => ⟨_, rfl, a, _, 3, _, rfl, rfl, (s2.seq (s1.seq ha)), wd_at (i := 3) (by omega), c4, _, rfl, .inr (hC4 _), rfl, flat_str linkedL, by rw [if_neg Bool.false_ne_true, inV_str]; exact ⟨_, rfl, h _ (Same.refl _)⟩⟩))))) (fun G1 t1 h1 => ?_) (fun G1 t1 h1 => ?_)
    · obtain ⟨z4, z⟩ := h1
      refine ⟨_, rfl, a, _, 0, _, rfl, rfl, t1.seq ha, wd_at (i := 0) (by omega), _, rfl, a, _, 2, _, rfl, rfl, t1.seq ha, wd_at (i := 2) (by omega), _, rfl, a, _, 3, _, rfl, rfl, t1.seq ha, wd_at (i := 3) (by omega), (by show 4 ≤ sizeLine; decide), fun p np => ?_⟩
      refine k _ _ (t1.trans (Same.new np)) ?_
      unfold placeM
      rw [if_pos ⟨z4, z⟩]
      exact ⟨(by intro z; cases z), .tup (SqT.of upd_same) (.cons (.str _) (.cons (.str _) (.cons (.str _) (.cons (.str _) .nil))))⟩
    have a1 := t1.seq ha
    have m1 : placeM ws = if ws.length < 3 ∨ ¬ wd ws 2 ∈ knownL then none else if ws.length = 3 then some (.tuple [.str "copy", .str (wd ws 0), .str (wd ws 2)]) else if ¬ (wd ws 3 = "+" ∨ wd ws 3 = "-") then none else
        (sumM (ws.drop 4) namesL).map fun acc => .tuple [.str "go", .str (wd ws 0), .str (wd ws 2), .int (if wd ws 3 = "+" then 1 else -1), sumD acc] := by
      unfold placeM
      rw [if_neg h1]
    refine nxt ?_
    dsimp only
    refine Says.ite (Says.or (fun Q h => ⟨_, rfl, a, _, rfl, .inl a1, _, _, rfl, rfl, _, rfl, by show Q (decide ((((ws.map V.str).length : Nat) : Int) < ((3 : Nat) : Int))) _; rw [dec_lt]; exact h _ (Same.refl _)⟩) (fun G1 s1 h1 => (fun Q h => ⟨_, rfl, a, _, 2, _, rfl, rfl, (s1.seq a1), wd_at (i := 2) (by omega), c1, _, rfl, .inr (hC1 _), rfl, flat_str knownL, by rw [if_pos rfl, inV_str, ← decide_not]; exact ⟨_, rfl, h _ (Same.refl _)⟩⟩))) (fun G2 t2 h2 => ?_) (fun G2 t2 h2 => ?_)
    · exact k .non _ (t1.trans t2) (by rw [m1, if_pos h2]; rfl)
    rw [if_neg h2] at m1
    have l3 : 3 ≤ ws.length := Nat.le_of_not_lt fun z => h2 (.inl z)
    have a2 := t2.seq a1
    refine nxt ?_
    dsimp only
    refine Says.ite (fun Q h => ⟨_, rfl, a, _, rfl, .inl a2, rfl, _, rfl, by show Q (decide (V.int _ = V.int ((3 : Nat) : Int))) _; rw [dec_len]; exact h _ (Same.refl _)⟩) (fun G3 t3 h3 => ?_) (fun G3 t3 h3 => ?_)
    · refine ⟨_, rfl, a, _, 0, _, rfl, rfl, t3.seq a2, wd_at (i := 0) (by omega), _, rfl, a, _, 2, _, rfl, rfl, t3.seq a2, wd_at (i := 2) (by omega), (by show 3 ≤ sizeLine; decide), fun p np => ?_⟩
      refine k _ _ ((t1.trans t2).trans (t3.trans (Same.new np))) ?_
      rw [m1, if_pos h3]
      exact ⟨(by intro z; cases z), .tup (SqT.of upd_same) (.cons (.str _) (.cons (.str _) (.cons (.str _) .nil)))⟩
    rw [if_neg h3] at m1
    have a3 := t3.seq a2
    refine nxt ?_
    dsimp only
    have e2 : ∀ x : Str, x ∈ [("+" : Str), "-"] ↔ (x = "+" ∨ x = "-") := fun x => by simp
    refine Says.ite (fun Q h => ⟨_, rfl, a, _, 3, _, rfl, rfl, a3, wd_at (i := 3) (by omega), (by show 2 ≤ sizeLine; decide), fun qq nqq => ⟨qq, _, rfl, .inr (SqT.of upd_same), rfl, flat_str [("+" : Str), ("-" : Str)], by rw [if_pos rfl]; exact ⟨_, rfl, by show Q (!inV (V.str _) ([("+" : Str), ("-" : Str)].map V.str)) _; rw [inV_str, ← decide_not]; exact h _ (Same.new nqq)⟩⟩⟩) (fun G4 t4 h4 => ?_) (fun G4 t4 h4 => ?_)
    · exact k .non _ ((t1.trans t2).trans (t3.trans t4)) (by rw [m1, if_pos (fun z => h4 ((e2 _).mpr z))]; rfl)
    rw [if_neg (fun z => h4 fun y => z ((e2 _).mp y))] at m1
    have a4 := t4.seq a3
    have s4 := (t1.trans t2).trans (t3.trans t4)
    refine ⟨_, rfl, _, rfl, a, _, rfl, a4, fun q nq => ?_⟩
    rw [show cutV (ws.map V.str) (some 4) none = (ws.drop 4).map V.str from cut_lo ws 4]
    have u1 := Same.new (o := .lst ((ws.drop 4).map V.str)) nq
    have wok2 : WsOk (ws.drop 4) := fun w hw => hok w (List.mem_of_mem_drop hw)
    refine ⟨q, c2, ws.drop 4, namesL, rfl, SqL.of upd_same, hC2 _, wok2.two, by rw [List.length_drop]; omega, fun v G5 s5 res => ?_⟩
    have sA := s4.trans (u1.trans s5)
    have aA := sA.seq ha
    have fin : (∀ n : Int, n = (if wd ws 3 = "+" then 1 else -1) → ∀ x : Prop, x → x) := fun _ _ _ z => z
    by_cases hp : wd ws 3 = "+"
    all_goals
      refine ⟨_, rfl, a, _, 3, _, rfl, rfl, aA, wd_at (i := 3) (by omega), rfl, _, rfl, ?_⟩
      rw [dec_str]
      first
        | (rw [decide_eq_true hp]; refine iteT ?_)
        | (rw [decide_eq_false hp]; refine iteF ⟨1, rfl, ?_⟩)
      refine ⟨_, rfl, rfl, _, rfl, ?_⟩
      cases o : sumM (ws.drop 4) namesL with
      | none =>
        rw [o] at res m1
        have rv : v = .non := res
        subst rv
        exact iteT (k _ _ sA (by rw [m1]; rfl))
      | some acc =>
        rw [o] at res m1
        refine ifF3 (decide_eq_false res.1) ?_
        refine ⟨_, rfl, a, _, 0, _, rfl, rfl, aA, wd_at (i := 0) (by omega), _, rfl, a, _, 2, _, rfl, rfl, aA, wd_at (i := 2) (by omega), _, rfl, _, rfl, (by show 5 ≤ sizeLine; decide), fun p np => ?_⟩
        refine k _ _ (sA.trans (Same.new np)) ?_
        rw [m1]
        first
          | rw [if_pos hp]
          | rw [if_neg hp]
        exact ⟨(by intro z; cases z), .tup (SqT.of upd_same) (.cons (.str _) (.cons (.str _) (.cons (.str _) (.cons (.int _) (.cons (res.2.keep (Same.tk (Same.new np))) .nil)))))⟩
theorem scTie : FnScope ["words"] ["words"] (defScope sTie) := ⟨rfl, rfl, rfl, by decide +kernel, rfl, by decide +kernel, by decide +kernel⟩
theorem ok_tie {f : Addr} {fd : FuncData} (F : Fun K "tie_step" "tie_step" sTie f fd) (TN : TxtN mg) (T : TxtC K w mg) : FnOk P w K mg base CX0 1 f fd ["words"] (spWords K (fun ws => 1 ≤ ws.length) tieM) := by
  obtain ⟨c4, hc4, hC4⟩ := T.lk
  refine F.ok scTie (fun vs H Q E h => ?_) (fun cdv A outer s H vs Q E hr h => ?_)
  · obtain ⟨a, ws, rfl, _⟩ := h
    rfl
  · obtain ⟨a, ws, rfl, ha, hok, h2, hlen, k⟩ := h
    refine ⟨_, pss_cons (ps_if (PW.pt (pw_or (pt_cmpR op_ne (pe_callB call_len_seq (by rfl) TN.len PySem.boot_len (pa_cons (pv 0) pa_nil)) pe_int (nomark _)) (pw_or (pt_cmpR op_notIn_seq (pe_ix ix_list (pv 0) pe_int (fun _ _ => rfl)) (pe_glob (v := .ref c4) (by rfl) hc4 rfl) (by rfl)) (pw_or (pt_cmpR op_ne (pe_ix ix_list (pv 0) pe_int (fun _ _ => rfl)) pe_str (nomark _)) (pw_or1 (pt_cmpR op_notIn_seq (pe_ix ix_list (pv 0) pe_int (fun _ _ => rfl)) (pe_glob (v := .ref c4) (by rfl) hc4 rfl) (by rfl))))))) (pss_one (ps_ret pe_non)) pss_nil)
      (pss_one (ps_ret (pe_tup (pa_cons pe_str (pa_cons (pe_ix ix_list (pv 0) pe_int (fun _ _ => rfl)) (pa_cons (pe_ix ix_list (pv 0) pe_int (fun _ _ => rfl)) (pa_cons (pe_ix ix_list (pv 0) pe_int (fun _ _ => rfl)) pa_nil))))))), ?_⟩
    refine Says.ite (Says.or (fun Q h => ⟨_, rfl, a, _, rfl, .inl ha, rfl, _, rfl, by show Q (!decide (V.int _ = V.int ((4 : Nat) : Int))) _; rw [dec_len, ← decide_not]; exact h _ (Same.refl _)⟩) (fun G1 s1 h1 => (Says.or (fun Q h => ⟨_, rfl, a, _, 1, _, rfl, rfl, (s1.seq ha), wd_at (i := 1) (by omega), c4, _, rfl, .inr (hC4 _), rfl, flat_str linkedL, by rw [if_pos rfl, inV_str, ← decide_not]; exact ⟨_, rfl, h _ (Same.refl _)⟩⟩) (fun G2 s2 h2 => (Says.or (fun Q h => ⟨_, rfl, a, _, 2, _, rfl, rfl, (s2.seq (s1.seq ha)), wd_at (i := 2) (by omega), rfl, _, rfl, by rw [dec_str, ← decide_not]; exact h _ (Same.refl _)⟩) (fun G3 s3 h3 => (fun Q h => ⟨_, rfl, a, _, 3, _, rfl, rfl, (s3.seq (s2.seq (s1.seq ha))), wd_at (i := 3) (by omega), c4, _, rfl, .inr (hC4 _), rfl, flat_str linkedL, by rw [if_pos rfl, inV_str, ← decide_not]; exact ⟨_, rfl, h _ (Same.refl _)⟩⟩))))))) (fun G1 t1 h1 => ?_) (fun G1 t1 h1 => ?_)
    · exact k .non _ t1 (by
        unfold tieM
        rw [if_neg fun z => h1.elim (fun y => y z.1) fun y => y.elim (fun y => y z.2.1) fun y => y.elim (fun y => y z.2.2.1) fun y => y z.2.2.2]
        rfl)
    have l4 : ws.length = 4 := Decidable.not_not.mp fun z => h1 (.inl z)
    refine nxt ?_
    dsimp only
    refine ⟨_, rfl, a, _, 0, _, rfl, rfl, t1.seq ha, wd_at (i := 0) (by omega), _, rfl, a, _, 1, _, rfl, rfl, t1.seq ha, wd_at (i := 1) (by omega), _, rfl, a, _, 3, _, rfl, rfl, t1.seq ha, wd_at (i := 3) (by omega), (by show 4 ≤ sizeLine; decide), fun p np => ?_⟩
    refine k _ _ (t1.trans (Same.new np)) ?_
    unfold tieM
    rw [if_pos ⟨l4, Decidable.not_not.mp fun z => h1 (.inr (.inl z)), Decidable.not_not.mp fun z => h1 (.inr (.inr (.inl z))), Decidable.not_not.mp fun z => h1 (.inr (.inr (.inr z)))⟩]
    exact ⟨(by intro z; cases z), .tup (SqT.of upd_same) (.cons (.str _) (.cons (.str _) (.cons (.str _) (.cons (.str _) .nil))))⟩
end
end K15

set_option Elab.async false
set_option linter.all false
set_option maxRecDepth 100000
set_option maxHeartbeats 8000000
/-! Block codes, d: a flag's line -/
namespace K15
open PySem L2
section
variable {P : Program} {w : World} {K : PySem.W.Frag} {mg : Str → Option Value} {base : Heap}
theorem gn {i : Nat} {x : V} {σ : L2.St} {H : Hp} {Q : L2.St → Hp → Prop} (h : Q (σ.set i (some x)) H) : gName i x σ H Q := h
theorem fl_some {w : Str} : (!((flagM w).map Value.bool).isSome) = decide (flagM w = none) := by
  cases flagM w <;> simp
theorem scFlag : FnScope ["words", "which", "rest"] ["words"] (defScope sFlag) := ⟨rfl, rfl, rfl, by decide +kernel, rfl, by decide +kernel, by decide +kernel⟩
theorem ok_flag {f : Addr} {fd : FuncData} (F : Fun K "flag_step" "flag_step" sFlag f fd) (TN : TxtN mg) (T : TxtC K w mg) : FnOk P w K mg base CX0 1 f fd ["words"] (spWords K (fun ws => 1 ≤ ws.length) flagStepM) := by
  obtain ⟨c1, hc1, hC1⟩ := T.kn
  obtain ⟨c5, es5, n5, hc5, D5, hF5⟩ := T.fl
  refine F.ok scFlag (fun vs H Q E h => ?_) (fun cdv A outer s H vs Q E hr h => ?_)
  · obtain ⟨a, ws, rfl, _⟩ := h
    rfl
  · obtain ⟨a, ws, rfl, ha, hok, h2, hlen, k⟩ := h
    refine ⟨_, pss_cons (ps_set (i := 1) scFlag.nd rfl (Or.inl rfl) (pe_ifExp (pt_cmpR op_eq (pe_ix ix_list (pv 0) pe_int (fun _ _ => rfl)) pe_str (nomark _)) pe_str pe_str))
      (pss_cons (ps_set (i := 2) scFlag.nd rfl (Or.inl rfl) (pe_ifExp (pt_cmpR op_eq (pv 1) pe_str (nomark _)) (pe_slice sl_list (pv 0) (po_some pe_int) po_none) (pv 0)))
      (pss_cons (ps_if (PW.pt (pw_or (pt_cmpR op_ne (pe_callB call_len_seq (by rfl) TN.len PySem.boot_len (pa_cons (pv 2) pa_nil)) pe_int (nomark _)) (pw_or (pt_cmpR (op_notIn_kd D5) (pe_ix ix_list (pv 2) pe_int (fun _ _ => rfl)) (pe_glob (v := .ref c5) (by rfl) hc5 rfl) (by rfl)) (pw_or1 (pt_cmpR op_notIn_seq (pe_ix ix_list (pv 2) pe_int (fun _ _ => rfl)) (pe_glob (v := .ref c1) (by rfl) hc1 rfl) (by rfl)))))) (pss_one (ps_ret pe_non)) pss_nil)
      (pss_one (ps_ret (pe_tup (pa_cons pe_str (pa_cons (pe_ix ix_list (pv 2) pe_int (fun _ _ => rfl)) (pa_cons (pv 1) (pa_cons (pe_ix ix_kdict (pe_glob (v := .ref c5) (by rfl) hc5 rfl) (pe_ix ix_list (pv 2) pe_int (fun _ _ => rfl)) (fun _ _ => rfl)) pa_nil))))))))), ?_⟩
    refine ⟨_, rfl, a, _, 0, _, rfl, rfl, ha, wd_at (i := 0) (by omega), rfl, _, rfl, ?_⟩
    rw [dec_str]
    by_cases hp : wd ws 0 = "ahead"
    · rw [decide_eq_true hp]
      refine iteT ?_
      refine ⟨_, rfl, rfl, _, rfl, ifT3 (decide_eq_true rfl) ?_⟩
      refine ⟨_, rfl, _, rfl, a, _, rfl, ha, fun q nq => ?_⟩
      rw [show cutV (ws.map V.str) (some 1) none = (ws.drop 1).map V.str from cut_lo ws 1]
      have u1 := Same.new (o := .lst ((ws.drop 1).map V.str)) nq
      have hq : SqL K (upd H q (.lst ((ws.drop 1).map V.str))) q ((ws.drop 1).map V.str) := SqL.of upd_same
      have hM : flagStepM ws = if (ws.drop 1).length = 2 ∧ wd (ws.drop 1) 1 ∈ knownL then (flagM (wd (ws.drop 1) 0)).map fun u => .tuple [.str "flag", .str (wd (ws.drop 1) 1), .str "ahead", .bool u] else none := by
        unfold flagStepM
        simp only [if_pos hp]
      refine gn ?_
      dsimp only
      refine Says.ite (Says.or (fun Q h => ⟨_, rfl, q, _, rfl, .inl hq, rfl, _, rfl, by show Q (!decide (V.int _ = V.int ((2 : Nat) : Int))) _; rw [dec_len, ← decide_not]; exact h _ (Same.refl _)⟩) (fun G1 s1 h1 => (Says.or (fun Q h => ⟨_, rfl, q, _, 0, _, rfl, rfl, (s1.seq hq), wd_at (i := 0) (by omega), _, _, rfl, rfl, hF5 _, _, rfl, by rw [fl_some]; exact h _ (Same.refl _)⟩) (fun G2 s2 h2 => (fun Q h => ⟨_, rfl, q, _, 1, _, rfl, rfl, (s2.seq (s1.seq hq)), wd_at (i := 1) (by omega), c1, _, rfl, .inr (hC1 _), rfl, flat_str knownL, by rw [if_pos rfl, inV_str, ← decide_not]; exact ⟨_, rfl, h _ (Same.refl _)⟩⟩))))) (fun G2 t2 h2 => ?_) (fun G2 t2 h2 => ?_)
      · refine k .non _ (u1.trans t2) ?_
        rw [hM]
        by_cases c : (ws.drop 1).length = 2 ∧ wd (ws.drop 1) 1 ∈ knownL
        · rw [if_pos c]
          rcases h2 with y | y | y
          · exact absurd c.1 y
          · rw [show flagM (wd (ws.drop 1) 0) = none from y]
            rfl
          · exact absurd c.2 y
        · rw [if_neg c]
          rfl
      have l2 : (ws.drop 1).length = 2 := Decidable.not_not.mp fun z => h2 (.inl z)
      have l3 : wd (ws.drop 1) 1 ∈ knownL := Decidable.not_not.mp fun z => h2 (.inr (.inr z))
      obtain ⟨u, hu⟩ : ∃ u, flagM (wd (ws.drop 1) 0) = some u := by
        cases e : flagM (wd (ws.drop 1) 0) with
        | none => exact absurd (.inr (.inl e)) h2
        | some u => exact ⟨u, rfl⟩
      rw [if_pos ⟨l2, l3⟩, hu] at hM
      refine nxt ?_
      dsimp only
      have aR := t2.seq hq
      refine ⟨_, rfl, q, _, 1, _, rfl, rfl, aR, wd_at (i := 1) (by omega), _, rfl, _, rfl, q, _, 0, _, rfl, rfl, aR, wd_at (i := 0) (by omega), c5, _, .bl u, rfl, rfl, ⟨_, _, .bool u, D5.at_, D5.lit, (hF5 _).trans (by rw [hu]; rfl), rfl⟩, (by show 4 ≤ sizeLine; decide), fun p np => ?_⟩
      refine k _ _ (u1.trans (t2.trans (Same.new np))) ?_
      rw [hM]
      exact ⟨(by intro z; cases z), .tup (SqT.of upd_same) (.cons (.str _) (.cons (.str _) (.cons (.str _) (.cons (.bl _) .nil))))⟩
    · rw [decide_eq_false hp]
      refine iteF ?_
      refine ⟨_, rfl, rfl, _, rfl, ifF3 (by decide +kernel) ?_⟩
      have hM : flagStepM ws = if ws.length = 2 ∧ wd ws 1 ∈ knownL then (flagM (wd ws 0)).map fun u => .tuple [.str "flag", .str (wd ws 1), .str "used", .bool u] else none := by
        unfold flagStepM
        simp only [if_neg hp]
      refine ⟨_, rfl, ?_⟩
      have u1 := Same.refl H
      refine gn ?_
      dsimp only
      refine Says.ite (Says.or (fun Q h => ⟨_, rfl, a, _, rfl, .inl ha, rfl, _, rfl, by show Q (!decide (V.int _ = V.int ((2 : Nat) : Int))) _; rw [dec_len, ← decide_not]; exact h _ (Same.refl _)⟩) (fun G1 s1 h1 => (Says.or (fun Q h => ⟨_, rfl, a, _, 0, _, rfl, rfl, (s1.seq ha), wd_at (i := 0) (by omega), _, _, rfl, rfl, hF5 _, _, rfl, by rw [fl_some]; exact h _ (Same.refl _)⟩) (fun G2 s2 h2 => (fun Q h => ⟨_, rfl, a, _, 1, _, rfl, rfl, (s2.seq (s1.seq ha)), wd_at (i := 1) (by omega), c1, _, rfl, .inr (hC1 _), rfl, flat_str knownL, by rw [if_pos rfl, inV_str, ← decide_not]; exact ⟨_, rfl, h _ (Same.refl _)⟩⟩))))) (fun G2 t2 h2 => ?_) (fun G2 t2 h2 => ?_)
      · refine k .non _ (u1.trans t2) ?_
        rw [hM]
        by_cases c : (ws).length = 2 ∧ wd (ws) 1 ∈ knownL
        · rw [if_pos c]
          rcases h2 with y | y | y
          · exact absurd c.1 y
          · rw [show flagM (wd (ws) 0) = none from y]
            rfl
          · exact absurd c.2 y
        · rw [if_neg c]
          rfl
      have l2 : (ws).length = 2 := Decidable.not_not.mp fun z => h2 (.inl z)
      have l3 : wd (ws) 1 ∈ knownL := Decidable.not_not.mp fun z => h2 (.inr (.inr z))
      obtain ⟨u, hu⟩ : ∃ u, flagM (wd (ws) 0) = some u := by
        cases e : flagM (wd (ws) 0) with
        | none => exact absurd (.inr (.inl e)) h2
        | some u => exact ⟨u, rfl⟩
      rw [if_pos ⟨l2, l3⟩, hu] at hM
      refine nxt ?_
      dsimp only
      have aR := t2.seq ha
      refine ⟨_, rfl, a, _, 1, _, rfl, rfl, aR, wd_at (i := 1) (by omega), _, rfl, _, rfl, a, _, 0, _, rfl, rfl, aR, wd_at (i := 0) (by omega), c5, _, .bl u, rfl, rfl, ⟨_, _, .bool u, D5.at_, D5.lit, (hF5 _).trans (by rw [hu]; rfl), rfl⟩, (by show 4 ≤ sizeLine; decide), fun p np => ?_⟩
      refine k _ _ (u1.trans (t2.trans (Same.new np))) ?_
      rw [hM]
      exact ⟨(by intro z; cases z), .tup (SqT.of upd_same) (.cons (.str _) (.cons (.str _) (.cons (.str _) (.cons (.bl _) .nil))))⟩
end
end K15

set_option Elab.async false
set_option linter.all false
set_option maxRecDepth 100000
set_option maxHeartbeats 8000000
/-! Block codes, e: a line with a size -/
namespace K15
open PySem L2
section
variable {P : Program} {w : World} {K : PySem.W.Frag} {mg : Str → Option Value} {base : Heap}
def rNotKd (K : PySem.W.Frag) (d : Addr) : R2 := fun x y H Q => ∃ (z : Str) (r : Option Value), x = .str z ∧ y = .ref d ∧ PySem.W.nsIn K d z = some r ∧ Q (.bl (!r.isSome)) H
theorem cut_mn (ws : List Str) (i j : Nat) (h : j ≤ ws.length) (hi : i ≤ ws.length) : cutV (ws.map V.str) (some (i : Int)) (some (j : Int)) = ((ws.drop i).take (j - i)).map V.str := by
  unfold cutV
  rw [HT.sIx_nat, HT.sIx_nat, List.length_map, Nat.min_eq_left h, Nat.min_eq_left hi, List.map_take, List.map_drop]
theorem cut_tail (ws : List Str) (h : 2 ≤ ws.length) : cutV (ws.map V.str) (some (-2)) none = [wd ws (ws.length - 2), wd ws (ws.length - 1)].map V.str := by
  have e1 : HT.sIx (ws.map V.str).length 0 (some (-2)) = ws.length - 2 := by
    rw [List.length_map]
    show (if (-2 : Int) < 0 then ((-2 : Int) + (ws.length : Int)).toNat else min (-2 : Int).toNat ws.length) = ws.length - 2
    rw [if_pos (by decide)]
    omega
  unfold cutV
  rw [e1, HT.sIx_none, List.length_map, ← List.map_drop, ← List.map_take]
  have e2 := two_wd (ws := ws) (i := ws.length - 2) (by omega)
  rw [show ws.length - 2 + 1 = ws.length - 1 by omega] at e2
  rw [← e2, show ws.length - (ws.length - 2) = 2 by omega]
abbrev nmSized : List Str := ["words", "flags", "terms", "flag"]
theorem scSized : FnScope nmSized ["words"] (defScope sSized) := ⟨rfl, rfl, rfl, by decide +kernel, rfl, by decide +kernel, by decide +kernel⟩
theorem ok_sized {f fS : Addr} {fd fdS : FuncData} (F : Fun K "sized_step" "sized_step" sSized f fd) (TN : TxtN mg) (T : TxtC K w mg)
    (GS : FnOk P w K mg base CX0 3 fS fdS ["words", "names"] (spSum K)) (kS : PySem.W.keepIn K (.ref fS) = true) (bS : Binds K fdS ["words", "names"] []) (gS : mg "sum_in" = some (.ref fS)) : FnOk P w K mg base CX0 4 f fd ["words"] (spWords K (fun ws => 1 ≤ ws.length) sizedM) := by
  obtain ⟨c1, hc1, hC1⟩ := T.kn
  obtain ⟨c2, hc2, hC2⟩ := T.nm
  obtain ⟨c5, es5, n5, hc5, D5, hF5⟩ := T.fl
  refine F.ok scSized (fun vs H Q E h => ?_) (fun cdv A outer s H vs Q E hr h => ?_)
  · obtain ⟨a, ws, rfl, _⟩ := h
    rfl
  · obtain ⟨a, ws, rfl, ha, hok, h2, hlen, k⟩ := h
    refine ⟨_, pss_cons (ps_if (PW.pt (pw_or (pt_cmpR op_lt (pe_callB call_len_seq (by rfl) TN.len PySem.boot_len (pa_cons (pv 0) pa_nil)) pe_int (nomark _)) (pw_or (pt_cmpR op_notIn_seq (pe_ix ix_list (pv 0) pe_int (fun _ _ => rfl)) (pe_glob (v := .ref c1) (by rfl) hc1 rfl) (by rfl)) (pw_or1 (pt_cmpR op_ne (pe_ix ix_list (pv 0) pe_int (fun _ _ => rfl)) pe_str (nomark _)))))) (pss_one (ps_ret pe_non)) pss_nil)
      (pss_cons (ps_set (i := 1) scSized.nd rfl (Or.inl rfl) (pe_ifExp (pt_cmpR op_eq (pe_ix ix_list (pv 0) pe_int (fun _ _ => rfl)) pe_str (nomark _)) (pe_slice sl_list (pv 0) (po_some (pe_un un_neg pe_int)) po_none) (pe_lst pa_nil)))
      (pss_cons (ps_set (i := 2) scSized.nd rfl (Or.inl rfl) (pe_call GS hr rfl gS kS bS .nil pass0 (pa_cons (pe_slice sl_list (pv 0) (po_some pe_int) (po_some (pe_op op_sub (pe_callB call_len_seq (by rfl) TN.len PySem.boot_len (pa_cons (pv 0) pa_nil)) (pe_callB call_len_seq (by rfl) TN.len PySem.boot_len (pa_cons (pv 1) pa_nil))))) (pa_cons (pe_glob (v := .ref c2) (by rfl) hc2 rfl) pa_nil))))
      (pss_cons (ps_if (PW.pt (pw_or (pt_cmpR op_isN (pv 2) pe_non (nomark _)) (pw_or1 (pt_truth (pe_lc (own := [("flag", 3)]) (g := gName 3) (te := tVar 3) rfl scSized.nd (by exact pi_list (pv 1)) (blkOk_by (own := [("flag", 3)]) (N := nmSized) (sc := defScope sSized) (by decide +kernel)) (fun _ _ _ _ _ => pg_name (i := 3) scSized.nd rfl (Or.inl rfl)) (fun _ _ _ _ _ => pts_one (pt_cmpR (show OpR _ _ (rNotKd K c5) from op_notIn_kd D5) (pv 3) (pe_glob (v := .ref c5) (by rfl) hc5 rfl) (by rfl))) (fun _ _ _ _ _ => pv 3)) (by intro _; rfl))))) (pss_one (ps_ret pe_non)) pss_nil)
      (pss_cons (ps_if (pt_cmpR op_eq (pe_ix ix_list (pv 0) pe_int (fun _ _ => rfl)) pe_str (nomark _)) (pss_one (ps_ret (pe_tup (pa_cons pe_str (pa_cons (pe_ix ix_list (pv 0) pe_int (fun _ _ => rfl)) (pa_cons (pv 2) (pa_cons (pe_ix ix_kdict (pe_glob (v := .ref c5) (by rfl) hc5 rfl) (pe_ix ix_list (pv 1) pe_int (fun _ _ => rfl)) (fun _ _ => rfl)) (pa_cons (pe_ix ix_kdict (pe_glob (v := .ref c5) (by rfl) hc5 rfl) (pe_ix ix_list (pv 1) pe_int (fun _ _ => rfl)) (fun _ _ => rfl)) pa_nil)))))))) pss_nil)
      (pss_one (ps_ret (pe_tup (pa_cons (pe_ifExp (pt_cmpR op_eq (pe_ix ix_list (pv 0) pe_int (fun _ _ => rfl)) pe_str (nomark _)) pe_str pe_str) (pa_cons (pe_ix ix_list (pv 0) pe_int (fun _ _ => rfl)) (pa_cons (pv 2) pa_nil)))))))))), ?_⟩
    refine Says.ite (Says.or (fun Q h => ⟨_, rfl, a, _, rfl, .inl ha, _, _, rfl, rfl, _, rfl, by show Q (decide ((((ws.map V.str).length : Nat) : Int) < ((4 : Nat) : Int))) _; rw [dec_lt]; exact h _ (Same.refl _)⟩) (fun G1 s1 h1 => (Says.or (fun Q h => ⟨_, rfl, a, _, 1, _, rfl, rfl, (s1.seq ha), wd_at (i := 1) (by omega), c1, _, rfl, .inr (hC1 _), rfl, flat_str knownL, by rw [if_pos rfl, inV_str, ← decide_not]; exact ⟨_, rfl, h _ (Same.refl _)⟩⟩) (fun G2 s2 h2 => (fun Q h => ⟨_, rfl, a, _, 2, _, rfl, rfl, (s2.seq (s1.seq ha)), wd_at (i := 2) (by omega), rfl, _, rfl, by rw [dec_str, ← decide_not]; exact h _ (Same.refl _)⟩))))) (fun G1 t1 h1 => ?_) (fun G1 t1 h1 => ?_)
    · exact k .non _ t1 (by unfold sizedM; rw [if_pos h1]; rfl)
    have l4 : 4 ≤ ws.length := Nat.le_of_not_lt fun z => h1 (.inl z)
    have a1 := t1.seq ha
    refine nxt ?_
    dsimp only
    refine ⟨_, rfl, a, _, 0, _, rfl, rfl, a1, wd_at (i := 0) (by omega), rfl, _, rfl, ?_⟩
    rw [dec_str]
    by_cases hp : wd ws 0 = "head"
    · rw [decide_eq_true hp]
      have hM : sizedM ws = headM (wd ws 1) (sumM ((ws.drop 3).take (ws.length - 5)) namesL) (flagM (wd ws (ws.length - 2))) (flagM (wd ws (ws.length - 1))) := by
        unfold sizedM
        rw [if_neg h1, if_pos hp]
      refine iteT ?_
      refine ⟨_, rfl, 2, rfl, _, rfl, a, _, rfl, a1, fun q nq => ?_⟩
      rw [cut_tail ws (by omega)]
      have u1 := Same.new (o := .lst ([wd ws (ws.length - 2), wd ws (ws.length - 1)].map V.str)) nq
      refine gn ?_
      dsimp only
      refine ⟨_, rfl, _, rfl, _, rfl, a, _, rfl, .inl (u1.seq a1), _, rfl, q, _, rfl, .inl (SqL.of upd_same), _, _, rfl, rfl, _, rfl, a, _, rfl, u1.seq a1, fun q2 nq2 => ?_⟩
      have eJ : (((ws.map V.str).length : Nat) : Int) - (2 : Int) = ((ws.length - 2 : Nat) : Int) := by rw [List.length_map]; omega
      have sl : cutV (ws.map V.str) (some 3) (some ((((ws.map V.str).length : Nat) : Int) - 2)) = ((ws.drop 3).take (ws.length - 5)).map V.str := by
        rw [eJ, show ws.length - 5 = ws.length - 2 - 3 by omega]
        exact cut_mn ws 3 (ws.length - 2) (by omega) (by omega)
      have sl2 : cutV (ws.map V.str) (some 3) (some ((((ws.map V.str).length : Nat) : Int) - ((([wd ws (ws.length - 2), wd ws (ws.length - 1)].map V.str).length : Nat) : Int))) = ((ws.drop 3).take (ws.length - 5)).map V.str := sl
      rw [sl2]
      have u2 := Same.new (o := .lst (((ws.drop 3).take (ws.length - 5)).map V.str)) nq2
      have wok3 : WsOk ((ws.drop 3).take (ws.length - 5)) := fun w hw => hok w (List.mem_of_mem_drop (List.mem_of_mem_take hw))
      refine ⟨q2, c2, (ws.drop 3).take (ws.length - 5), namesL, rfl, SqL.of upd_same, hC2 _, wok3.two, by rw [List.length_take, List.length_drop]; omega, fun v G4 s4 res => ?_⟩
      have sA := u1.trans (u2.trans s4)
      have gq : G4 q = some (.lst ([wd ws (ws.length - 2), wd ws (ws.length - 1)].map V.str)) := (u2.trans s4) _ _ upd_same
      have aA := sA.seq a1
      refine gn ?_
      dsimp only
      refine ⟨_, rfl, rfl, _, rfl, ?_⟩
      cases o : sumM ((ws.drop 3).take (ws.length - 5)) namesL with
      | none =>
        rw [o] at res hM
        have rv : v = .non := res
        subst rv
        refine iteT ?_
        exact iteT (k _ _ (t1.trans sA) (by rw [hM]; rfl))
      | some acc =>
        rw [o] at res hM
        refine ifF3 (decide_eq_false res.1) ?_
        refine ⟨_, rfl, q, rfl, ⟨_, SqL.of gq⟩, fun A0 nA => ?_⟩
        have bad : ∀ (x : Str), (!((flagM x).map Value.bool).isSome) = decide (flagM x = none) := fun x => fl_some
        refine lc_list (K := K) (a := q) (xs := [wd ws (ws.length - 2), wd ws (ws.length - 1)].map V.str) (fun i G => Same G4 G ∧ G A0 = some (.lst (((([wd ws (ws.length - 2), wd ws (ws.length - 1)] : List Str).take i).filter fun x => decide (flagM x = none)).map V.str))) ⟨Same.new nA, upd_same⟩ (fun i G _ hp => SqL.of (hp.1 _ _ gq)) ?_ ?_
        · rintro i x G hx ⟨sG, gA⟩
          rw [List.getElem?_map] at hx
          obtain ⟨y, hy, rfl⟩ := Option.map_eq_some_iff.mp hx
          refine ⟨rfl, ?_⟩
          refine ⟨_, rfl, y, _, rfl, rfl, hF5 y, _, rfl, ?_⟩
          rw [bad]
          have tk := take_more hy
          by_cases c : flagM y = none
          · rw [decide_eq_true c]
            refine iteT ⟨_, rfl, _, gA, ?_, Same.write sG nA, ?_⟩
            · rw [List.length_map]
              exact Nat.lt_of_le_of_lt (Nat.le_trans (List.length_filter_le _ _) (Nat.le_trans (List.length_take_le _ _) (show i ≤ 1000 by
                have := (List.getElem?_eq_some_iff.mp hy).1
                simp at this
                omega))) (by decide)
            · rw [tk, List.filter_append, List.map_append, upd_same]
              simp [c]
          · rw [decide_eq_false c]
            refine iteF ⟨sG, ?_⟩
            rw [tk, List.filter_append, gA]
            simp [c]
        rintro GX ⟨sX, gX⟩
        have full : (([wd ws (ws.length - 2), wd ws (ws.length - 1)] : List Str).take ([wd ws (ws.length - 2), wd ws (ws.length - 1)].map V.str).length) = [wd ws (ws.length - 2), wd ws (ws.length - 1)] := rfl
        rw [full] at gX
        by_cases cu : flagM (wd ws (ws.length - 2)) = none
        · refine ⟨true, .inl ⟨_, SqL.of gX, by simp [cu]⟩, ?_⟩
          exact iteT (k _ _ (t1.trans (sA.trans sX)) (by rw [hM, cu]; rfl))
        by_cases cv : flagM (wd ws (ws.length - 1)) = none
        · refine ⟨true, .inl ⟨_, SqL.of gX, by simp [cu, cv]⟩, ?_⟩
          exact iteT (k _ _ (t1.trans (sA.trans sX)) (by rw [hM, cv]; cases flagM (wd ws (ws.length - 2)) <;> rfl))
        refine ⟨false, .inl ⟨_, SqL.of gX, by simp [cu, cv]⟩, iteF ?_⟩
        obtain ⟨bu, hu⟩ := Option.ne_none_iff_exists'.mp cu
        obtain ⟨bv, hv⟩ := Option.ne_none_iff_exists'.mp cv
        rw [hu, hv] at hM
        have aX := sX.seq aA
        have qX := SqL.of (K := K) (sX _ _ gq)
        have kd : ∀ (x : Str) (b : Bool), flagM x = some b → KDct K w c5 x (.bl b) := fun x b e => ⟨_, _, .bool b, D5.at_, D5.lit, (hF5 _).trans (by rw [e]; rfl), rfl⟩
        refine nxt ?_
        dsimp only
        refine ⟨_, rfl, a, _, 0, _, rfl, rfl, aX, wd_at (i := 0) (by omega), rfl, _, rfl, ?_⟩
        rw [dec_str, decide_eq_true hp]
        refine iteT ?_
        refine ⟨_, rfl, a, _, 1, _, rfl, rfl, aX, wd_at (i := 1) (by omega), _, rfl, _, rfl, q, _, 0, _, rfl, rfl, qX, atI_nat (j := 0) rfl, c5, _, _, rfl, rfl, kd _ _ hu, _, rfl, q, _, 1, _, rfl, rfl, qX, atI_nat (j := 1) rfl, c5, _, _, rfl, rfl, kd _ _ hv, (by show 5 ≤ sizeLine; decide), fun p np => ?_⟩
        refine k _ _ (t1.trans (sA.trans (sX.trans (Same.new np)))) ?_
        rw [hM]
        exact ⟨(by intro z; cases z), .tup (SqT.of upd_same) (.cons (.str _) (.cons (.str _) (.cons ((res.2.keep (Same.tk sX)).keep (Same.tk (Same.new np))) (.cons (.bl _) (.cons (.bl _) .nil)))))⟩
    · rw [decide_eq_false hp]
      have hM : sizedM ws = (sumM (ws.drop 3) namesL).map fun acc => .tuple [.str (if wd ws 0 = "size" then "resize" else "foot"), .str (wd ws 1), sumD acc] := by
        unfold sizedM
        rw [if_neg h1, if_neg hp]
      refine iteF ?_
      refine ⟨(by show 0 ≤ sizeLine; decide), fun q nq => ?_⟩
      have u1 := Same.new (o := .lst []) nq
      refine gn ?_
      dsimp only
      refine ⟨_, rfl, _, rfl, _, rfl, a, _, rfl, .inl (u1.seq a1), _, rfl, q, _, rfl, .inl (SqL.of upd_same), _, _, rfl, rfl, _, rfl, a, _, rfl, u1.seq a1, fun q2 nq2 => ?_⟩
      have sl2 : cutV (ws.map V.str) (some 3) (some ((((ws.map V.str).length : Nat) : Int) - ((([] : List V).length : Nat) : Int))) = (ws.drop 3).map V.str := by
        have e := cut_mn ws 3 ws.length (Nat.le_refl _) (by omega)
        rw [List.take_of_length_le (by rw [List.length_drop]; exact Nat.le_refl _)] at e
        rw [← e, List.length_map]
        show cutV _ _ (some ((ws.length : Int) - 0)) = _
        rw [Int.sub_zero]
        rfl
      rw [sl2]
      have u2 := Same.new (o := .lst ((ws.drop 3).map V.str)) nq2
      have wok3 : WsOk (ws.drop 3) := fun w hw => hok w (List.mem_of_mem_drop hw)
      refine ⟨q2, c2, ws.drop 3, namesL, rfl, SqL.of upd_same, hC2 _, wok3.two, by rw [List.length_drop]; omega, fun v G4 s4 res => ?_⟩
      have sA := u1.trans (u2.trans s4)
      have gq : G4 q = some (.lst []) := (u2.trans s4) _ _ upd_same
      have aA := sA.seq a1
      refine gn ?_
      dsimp only
      refine ⟨_, rfl, rfl, _, rfl, ?_⟩
      cases o : sumM (ws.drop 3) namesL with
      | none =>
        rw [o] at res hM
        have rv : v = .non := res
        subst rv
        refine iteT ?_
        exact iteT (k _ _ (t1.trans sA) (by rw [hM]; rfl))
      | some acc =>
        rw [o] at res hM
        refine ifF3 (decide_eq_false res.1) ?_
        refine ⟨_, rfl, q, rfl, ⟨_, SqL.of gq⟩, fun A0 nA => ?_⟩
        refine lc_list (K := K) (a := q) (xs := []) (fun i G => Same G4 G ∧ G A0 = some (.lst [])) ⟨Same.new nA, upd_same⟩ (fun i G _ hp => SqL.of (hp.1 _ _ gq)) ?_ ?_
        · rintro i x G hx _
          cases hx
        rintro GX ⟨sX, gX⟩
        refine ⟨false, .inl ⟨_, SqL.of gX, rfl⟩, iteF ?_⟩
        have aX := sX.seq aA
        refine nxt ?_
        dsimp only
        refine ⟨_, rfl, a, _, 0, _, rfl, rfl, aX, wd_at (i := 0) (by omega), rfl, _, rfl, ?_⟩
        rw [dec_str, decide_eq_false hp]
        refine iteF ?_
        refine nxt ?_
        dsimp only
        have tail : ∀ x : Str, x = (if wd ws 0 = "size" then ("resize" : Str) else "foot") → ∀ p, GX p = none → ResD K (upd GX p (.tup [.str x, .str (wd ws 1), v])) (.ref p) (sizedM ws) := fun x e p np => by
          rw [hM, e]
          exact ⟨(by intro z; cases z), .tup (SqT.of upd_same) (.cons (.str _) (.cons (.str _) (.cons ((res.2.keep (Same.tk sX)).keep (Same.tk (Same.new np))) .nil)))⟩
        refine ⟨_, rfl, a, _, 0, _, rfl, rfl, aX, wd_at (i := 0) (by omega), rfl, _, rfl, ?_⟩
        rw [dec_str]
        by_cases hz : wd ws 0 = "size"
        · rw [decide_eq_true hz]
          refine iteT ⟨_, rfl, a, _, 1, _, rfl, rfl, aX, wd_at (i := 1) (by omega), _, rfl, (by show 3 ≤ sizeLine; decide), fun p np => ?_⟩
          exact k _ _ (t1.trans (sA.trans (sX.trans (Same.new np)))) (tail _ (if_pos hz).symm p np)
        · rw [decide_eq_false hz]
          refine iteF ⟨_, rfl, a, _, 1, _, rfl, rfl, aX, wd_at (i := 1) (by omega), _, rfl, (by show 3 ≤ sizeLine; decide), fun p np => ?_⟩
          exact k _ _ (t1.trans (sA.trans (sX.trans (Same.new np)))) (tail _ (if_neg hz).symm p np)
end
end K15

set_option Elab.async false
set_option linter.all false
set_option maxRecDepth 100000
set_option maxHeartbeats 8000000
/-! Block codes, f: a line, a part of a test -/
namespace K15
open PySem PySem.Spec PyProof.Rows L2
section
variable {P : Program} {w : World} {K : PySem.W.Frag} {mg : Str → Option Value} {base : Heap}
def SaysV (A : TE) (σ : L2.St) (H : Hp) (x : V) : Prop := ∀ Q : VK, (∀ G, Same H G → Q x G) → A σ H Q
/-- words i to j, and whether they are those -/
theorem slice_says {a : Addr} {ws xs : List Str} {σ : L2.St} {H : Hp} {te : TE} {ta : TA} {lo hi : Option Int} {ys : List Str} (ha : SqL K H a (ws.map V.str)) (hok : WsOk ys) (hc : cutV (ws.map V.str) lo hi = ys.map V.str) (hl : xs.length ≤ sizeLine) (hs : SeqAt.shaped (.list (xs.map PyData.str)) = true)
    (ht : ∀ Q : VK, (∀ q, H q = none → Q (.ref q) (upd H q (.lst (cutV (ws.map V.str) lo hi)))) → te σ H Q)
    (hx : ∀ (G : Hp) (Q : List V → Hp → Prop), Q (xs.map V.str) G → ta σ G Q) : Says (tTest (tOp (rEqD K) te (tLst ta))) σ H (ys = xs) := fun Q h => ht _ fun q nq => hx _ _ (by
  refine ⟨by rw [List.length_map]; exact hl, fun p np => ?_⟩
  have u1 := Same.new (o := .lst (cutV (ws.map V.str) lo hi)) nq
  have u2 := Same.new (o := .lst (xs.map V.str)) np
  have g1 := u2 _ _ (upd_same (H := H) (a := q) (o := .lst (cutV (ws.map V.str) lo hi)))
  have g2 := g1.trans (congrArg (fun z => some (HO.lst z)) hc)
  refine ⟨.list (ys.map PyData.str), .list (xs.map PyData.str), .lst (SqL.of g2) (dpWs _), .lst (SqL.of upd_same) (dpWs _), shapedWs hok, hs, ?_⟩
  rw [eqvL]
  exact ⟨_, rfl, h _ (u1.trans u2)⟩)
theorem cut_12 (ws : List Str) : cutV (ws.map V.str) (some 1) (some 2) = ((ws.drop 1).take 1).map V.str := by
  match ws with
  | [] => rfl
  | [x] => rfl
  | x :: y :: r =>
    have e := cut_mn (x :: y :: r) 1 2 (by simp) (by simp)
    exact e
theorem one_eq {ws : List Str} {x : Str} : (ws.drop 1).take 1 = [x] ↔ 2 ≤ ws.length ∧ wd ws 1 = x := by
  match ws with
  | [] => simp [wd]
  | [y] => simp [wd]
  | y :: z :: r => simp [wd]
theorem scStep : FnScope ["words", "kind"] ["words", "kind"] (defScope sStep) := ⟨rfl, rfl, rfl, by decide +kernel, rfl, by decide +kernel, by decide +kernel⟩
theorem ok_step {f f1 f2 f3 f4 f5 : Addr} {fd fd1 fd2 fd3 fd4 fd5 : FuncData} (F : Fun K "block_step_in" "block_step_in" sStep f fd) (TN : TxtN mg) (T : TxtC K w mg)
    (GR : FnOk P w K mg base CX0 4 f1 fd1 ["words"] (spWords K (fun ws => 2 ≤ ws.length) regM)) (kR : PySem.W.keepIn K (.ref f1) = true) (bR : Binds K fd1 ["words"] []) (gR : mg "register_step" = some (.ref f1))
    (GP : FnOk P w K mg base CX0 4 f2 fd2 ["words"] (spWords K (fun ws => 2 ≤ ws.length) placeM)) (kP : PySem.W.keepIn K (.ref f2) = true) (bP : Binds K fd2 ["words"] []) (gP : mg "place_step" = some (.ref f2))
    (GS : FnOk P w K mg base CX0 4 f3 fd3 ["words"] (spWords K (fun ws => 1 ≤ ws.length) sizedM)) (kS : PySem.W.keepIn K (.ref f3) = true) (bS : Binds K fd3 ["words"] []) (gS : mg "sized_step" = some (.ref f3))
    (GF : FnOk P w K mg base CX0 1 f4 fd4 ["words"] (spWords K (fun ws => 1 ≤ ws.length) flagStepM)) (kF : PySem.W.keepIn K (.ref f4) = true) (bF : Binds K fd4 ["words"] []) (gF : mg "flag_step" = some (.ref f4))
    (GT : FnOk P w K mg base CX0 1 f5 fd5 ["words"] (spWords K (fun ws => 1 ≤ ws.length) tieM)) (kT : PySem.W.keepIn K (.ref f5) = true) (bT : Binds K fd5 ["words"] []) (gT : mg "tie_step" = some (.ref f5)) :
    FnOk P w K mg base CX0 5 f fd ["words", "kind"] (spStepIn K kindsL stepM) := by
  obtain ⟨c1, hc1, hC1⟩ := T.rg
  obtain ⟨c2, hc2, hC2⟩ := T.pl
  obtain ⟨c3, hc3, hC3⟩ := T.ln
  refine F.ok scStep (fun vs H Q E h => ?_) (fun cdv A outer s H vs Q E hr h => ?_)
  · obtain ⟨a, ws, kd, rfl, _⟩ := h
    rfl
  · obtain ⟨a, ws, kd, rfl, hkd, ha, hok, hne, hlen, k⟩ := h
    have hr1 : Room 1 _ := hr.mono (by decide)
    have room : (A.deeper (envOfC "block_step_in" (defScope sStep) s.heap.objs.size f cdv)).units + 65 < cLine := by have := hr.un; omega
    have l1 : 1 ≤ ws.length := List.length_pos_iff.mpr hne
    refine ⟨_, pss_cons (ps_if (pt_cmpR (op_inDT room) (pv 0) (pe_tup (pa_cons (pe_lst (pa_cons pe_str pa_nil)) (pa_cons (pe_lst (pa_cons pe_str pa_nil)) pa_nil))) (by rfl)) (pss_one (ps_ret (pe_tup (pa_cons (pe_ix ix_list (pv 0) pe_int (fun _ _ => rfl)) pa_nil)))) pss_nil)
      (pss_cons (ps_if (pt_cmpR (op_eqD hr.units) (pe_slice sl_list (pv 0) (po_some pe_int) (po_some pe_int)) (pe_lst (pa_cons pe_str pa_nil)) (nomark _)) (pss_cons (ps_if (pt_cmpR op_in_seq (pe_ix ix_list (pv 0) pe_int (fun _ _ => rfl)) (pe_glob (v := .ref c1) (by rfl) hc1 rfl) (by rfl)) (pss_one (ps_ret (pe_call GR hr rfl gR kR bR .nil pass0 (pa_cons (pv 0) pa_nil)))) pss_nil)
      (pss_one (ps_ret (pe_ifExp (pt_cmpR op_in_seq (pe_ix ix_list (pv 0) pe_int (fun _ _ => rfl)) (pe_glob (v := .ref c2) (by rfl) hc2 rfl) (by rfl)) (pe_call GP hr rfl gP kP bP .nil pass0 (pa_cons (pv 0) pa_nil)) pe_non)))) pss_nil)
      (pss_cons (ps_if (pt_cmpR op_in_seq (pe_ix ix_list (pv 0) pe_int (fun _ _ => rfl)) (pe_tup (pa_cons pe_str (pa_cons pe_str (pa_cons pe_str pa_nil)))) (by rfl)) (pss_one (ps_ret (pe_call GS hr rfl gS kS bS .nil pass0 (pa_cons (pv 0) pa_nil)))) pss_nil)
      (pss_cons (ps_if (pt_cmpR op_in_seq (pe_ix ix_list (pv 0) pe_int (fun _ _ => rfl)) (pe_tup (pa_cons pe_str (pa_cons pe_str (pa_cons pe_str pa_nil)))) (by rfl)) (pss_one (ps_ret (pe_call GF hr1 rfl gF kF bF .nil pass0 (pa_cons (pv 0) pa_nil)))) pss_nil)
      (pss_one (ps_ret (pe_ifExp (pt_cmpR op_in_seq (pe_ix ix_list (pv 0) pe_int (fun _ _ => rfl)) (pe_glob (v := .ref c3) (by rfl) hc3 rfl) (by rfl)) (pe_call GT hr1 rfl gT kT bT .nil pass0 (pa_cons (pv 0) pa_nil)) pe_non)))))), ?_⟩
    refine Says.ite (p := ws = [("quit" : Str)] ∨ ws = [("no" : Str)]) (fun Q h => ⟨_, rfl, (by show 1 ≤ sizeLine; decide), fun q1 n1 => ⟨(by show 1 ≤ sizeLine; decide), fun q2 n2 => ⟨(by show 2 ≤ sizeLine; decide), fun q3 n3 => ?_⟩⟩⟩) (fun G1 t1 h1 => ?_) (fun G1 t1 h1 => ?_)
    · have u1 := Same.new (o := .lst [.str "quit"]) n1
      have u2 := Same.new (o := .lst [.str "no"]) n2
      have u3 := Same.new (o := .tup [.ref q1, .ref q2]) n3
      have uA := u1.trans (u2.trans u3)
      refine ⟨.list (ws.map PyData.str), [.list ([("quit" : Str)].map PyData.str), .list ([("no" : Str)].map PyData.str)], .lst (uA.seq ha) (dpWs _), .tup (.inl (.inl upd_same)) (.cons (.lst (SqL.of (xs := [("quit" : Str)].map V.str) ((u2.trans u3) _ _ upd_same)) (dpWs _)) (.cons (.lst (SqL.of (xs := [("no" : Str)].map V.str) (u3 _ _ upd_same)) (dpWs _)) .nil)), shapedWs hok, by decide +kernel, ?_⟩
      refine ⟨_, rfl, ?_⟩
      have e : ([PyData.list ([("quit" : Str)].map PyData.str), .list ([("no" : Str)].map PyData.str)].any fun z => PyData.eqv z (.list (ws.map PyData.str))) = decide (ws = [("quit" : Str)] ∨ ws = [("no" : Str)]) := by
        simp only [List.any_cons, List.any_nil, Bool.or_false, eqvL]
        rw [← Bool.decide_or]
        exact decide_eq_decide.mpr ⟨fun z => z.imp Eq.symm Eq.symm, fun z => z.imp Eq.symm Eq.symm⟩
      rw [e]
      exact h _ uA
    · refine ⟨_, rfl, a, _, 0, _, rfl, rfl, t1.seq ha, wd_at (i := 0) (by omega), (by show 1 ≤ sizeLine; decide), fun p np => ?_⟩
      refine k _ _ (t1.trans (Same.new np)) ?_
      unfold stepM
      rw [if_pos h1]
      exact ⟨(by intro z; cases z), .tup (SqT.of upd_same) (.cons (.str _) .nil)⟩
    have a1 := t1.seq ha
    refine nxt ?_
    dsimp only
    have wok1 : WsOk ((ws.drop 1).take 1) := fun w hw => hok w (List.mem_of_mem_drop (List.mem_of_mem_take hw))
    refine Says.ite (p := (ws.drop 1).take 1 = [("=" : Str)]) (slice_says (xs := [("=" : Str)]) a1 wok1 (cut_12 ws) (by decide) (by decide +kernel) (fun Q h => ⟨_, rfl, _, rfl, _, rfl, a, _, rfl, a1, h⟩) (fun G Q h => h)) (fun G2 t2 h2 => ?_) (fun G2 t2 h2 => ?_)
    · have l2 := one_eq.mp h2
      have a2 := t2.seq a1
      refine Says.ite (fun Q h => ⟨_, rfl, a, _, 0, _, rfl, rfl, a2, wd_at (i := 0) (by omega), c1, _, rfl, .inr (hC1 _), rfl, flat_str regsL, by rw [if_neg Bool.false_ne_true, inV_str]; exact ⟨_, rfl, h _ (Same.refl _)⟩⟩) (fun G3 t3 h3 => ?_) (fun G3 t3 h3 => ?_)
      · have hM : stepM kd ws = regM ws := by
          unfold stepM
          rw [if_neg h1, if_pos l2, if_pos h3]
        exact ⟨_, rfl, a, ws, rfl, t3.seq a2, hok, l2.1, hlen, fun v G s res => k v G ((t1.trans (t2.trans t3)).trans s) (by rw [hM]; exact res)⟩
      refine nxt ?_
      dsimp only
      refine (show Says _ _ _ (wd ws 0 ∈ placesL) from (fun Q h => ⟨_, rfl, a, _, 0, _, rfl, rfl, (t3.seq a2), wd_at (i := 0) (by omega), c2, _, rfl, .inr (hC2 _), rfl, flat_str placesL, by rw [if_neg Bool.false_ne_true, inV_str]; exact ⟨_, rfl, h _ (Same.refl _)⟩⟩)) _ fun G4 t4 => ?_
      by_cases h4 : wd ws 0 ∈ placesL
      · have hM : stepM kd ws = placeM ws := by
          unfold stepM
          rw [if_neg h1, if_pos l2, if_neg h3, if_pos h4]
        rw [decide_eq_true h4]
        exact iteT ⟨_, rfl, a, ws, rfl, (t3.trans t4).seq a2, hok, l2.1, hlen, fun v G s res => k v G ((t1.trans (t2.trans (t3.trans t4))).trans s) (by rw [hM]; exact res)⟩
      · rw [decide_eq_false h4]
        refine iteF (k _ _ (t1.trans (t2.trans (t3.trans t4))) ?_)
        unfold stepM
        rw [if_neg h1, if_pos l2, if_neg h3, if_neg h4]
        rfl
    have n2 : ¬ (2 ≤ ws.length ∧ wd ws 1 = "=") := fun z => h2 (one_eq.mpr z)
    have a2 := t2.seq a1
    refine nxt ?_
    dsimp only
    refine Says.ite (fun Q h => ⟨_, rfl, a, _, 0, _, rfl, rfl, a2, wd_at (i := 0) (by omega), (by show 3 ≤ sizeLine; decide), fun qq nqq => ⟨qq, _, rfl, .inr (SqT.of upd_same), rfl, flat_str [("head" : Str), ("size" : Str), ("foot" : Str)], by rw [if_neg Bool.false_ne_true]; exact ⟨_, rfl, by show Q (inV (V.str _) ([("head" : Str), ("size" : Str), ("foot" : Str)].map V.str)) _; rw [inV_str]; exact h _ (Same.new nqq)⟩⟩⟩) (fun G3 t3 h3 => ?_) (fun G3 t3 h3 => ?_)
    · have hM : stepM kd ws = sizedM ws := by
        unfold stepM
        rw [if_neg h1, if_neg n2, if_pos h3]
      exact ⟨_, rfl, a, ws, rfl, t3.seq a2, hok, l1, hlen, fun v G s res => k v G ((t1.trans (t2.trans t3)).trans s) (by rw [hM]; exact res)⟩
    have a3 := t3.seq a2
    refine nxt ?_
    dsimp only
    refine Says.ite (fun Q h => ⟨_, rfl, a, _, 0, _, rfl, rfl, a3, wd_at (i := 0) (by omega), (by show 3 ≤ sizeLine; decide), fun qq nqq => ⟨qq, _, rfl, .inr (SqT.of upd_same), rfl, flat_str [("used" : Str), ("free" : Str), ("ahead" : Str)], by rw [if_neg Bool.false_ne_true]; exact ⟨_, rfl, by show Q (inV (V.str _) ([("used" : Str), ("free" : Str), ("ahead" : Str)].map V.str)) _; rw [inV_str]; exact h _ (Same.new nqq)⟩⟩⟩) (fun G4 t4 h4 => ?_) (fun G4 t4 h4 => ?_)
    · have hM : stepM kd ws = flagStepM ws := by
        unfold stepM
        rw [if_neg h1, if_neg n2, if_neg h3, if_pos h4]
      exact ⟨_, rfl, a, ws, rfl, t4.seq a3, hok, l1, hlen, fun v G s res => k v G ((t1.trans (t2.trans (t3.trans t4))).trans s) (by rw [hM]; exact res)⟩
    have a4 := t4.seq a3
    refine nxt ?_
    dsimp only
    refine (show Says _ _ _ (wd ws 0 ∈ linksL) from (fun Q h => ⟨_, rfl, a, _, 0, _, rfl, rfl, a4, wd_at (i := 0) (by omega), c3, _, rfl, .inr (hC3 _), rfl, flat_str linksL, by rw [if_neg Bool.false_ne_true, inV_str]; exact ⟨_, rfl, h _ (Same.refl _)⟩⟩)) _ fun G5 t5 => ?_
    by_cases h5 : wd ws 0 ∈ linksL
    · have hM : stepM kd ws = tieM ws := by
        unfold stepM
        rw [if_neg h1, if_neg n2, if_neg h3, if_neg h4, if_pos h5]
      rw [decide_eq_true h5]
      exact iteT ⟨_, rfl, a, ws, rfl, t5.seq a4, hok, l1, hlen, fun v G s res => k v G ((t1.trans (t2.trans (t3.trans (t4.trans t5)))).trans s) (by rw [hM]; exact res)⟩
    · rw [decide_eq_false h5]
      refine iteF (k _ _ (t1.trans (t2.trans (t3.trans (t4.trans t5)))) ?_)
      unfold stepM
      rw [if_neg h1, if_neg n2, if_neg h3, if_neg h4, if_neg h5]
      rfl
end
end K15

set_option Elab.async false
set_option linter.all false
set_option maxRecDepth 100000
set_option maxHeartbeats 8000000
/-! Block codes, g: a part of a test -/
namespace K15
open PySem L2
section
variable {P : Program} {w : World} {K : PySem.W.Frag} {mg : Str → Option Value} {base : Heap}
theorem scHPart : FnScope ["words", "kind"] ["words", "kind"] (defScope sHPart) := ⟨rfl, rfl, rfl, by decide +kernel, rfl, by decide +kernel, by decide +kernel⟩
theorem head_two {ws : List Str} {x y : Str} (h : ws.length = 3) : ws.take 2 = [x, y] ↔ wd ws 0 = x ∧ wd ws 1 = y := by
  match ws, h with
  | [a, b, c], _ => simp [wd]
theorem tail_two {ws : List Str} {x y : Str} (h : ws.length = 3) : ws.drop 1 = [x, y] ↔ wd ws 1 = x ∧ wd ws 2 = y := by
  match ws, h with
  | [a, b, c], _ => simp [wd]
theorem ok_hpart {f fC : Addr} {fd fdC : FuncData} (F : Fun K "block_part_in" "block_part_in" sHPart f fd) (TN : TxtN mg) (T : TxtC K w mg)
    (GC : FnOk P w K mg base CX0 3 fC fdC ["words", "names"] (spComp K)) (kC : PySem.W.keepIn K (.ref fC) = true) (bC : Binds K fdC ["words", "names"] []) (gC : mg "comparison_in" = some (.ref fC)) :
    FnOk P w K mg base CX0 4 f fd ["words", "kind"] (spPartIn K kindsL hPartM) := by
  obtain ⟨c1, hc1, hC1⟩ := T.kn
  obtain ⟨c2, hc2, hC2⟩ := T.nm
  refine F.ok scHPart (fun vs H Q E h => ?_) (fun cdv A outer s H vs Q E hr h => ?_)
  · obtain ⟨a, ws, kd, rfl, _⟩ := h
    rfl
  · obtain ⟨a, ws, kd, rfl, hkd, ha, hok, hlen, k⟩ := h
    refine ⟨_, pss_cons (ps_if (PW.pt (pw_and (pt_cmpR op_eq (pe_callB call_len_seq (by rfl) TN.len PySem.boot_len (pa_cons (pv 0) pa_nil)) pe_int (nomark _)) (pw_and (pt_cmpR op_eq (pe_ix ix_list (pv 0) pe_int (fun _ _ => rfl)) pe_str (nomark _)) (pw_and1 (pt_cmpR op_in_seq (pe_ix ix_list (pv 0) pe_int (fun _ _ => rfl)) (pe_glob (v := .ref c1) (by rfl) hc1 rfl) (by rfl)))))) (pss_one (ps_ret (pe_tup (pa_cons pe_str (pa_cons (pe_ix ix_list (pv 0) pe_int (fun _ _ => rfl)) pa_nil))))) pss_nil)
      (pss_cons (ps_if (PW.pt (pw_and (pt_cmpR op_eq (pe_callB call_len_seq (by rfl) TN.len PySem.boot_len (pa_cons (pv 0) pa_nil)) pe_int (nomark _)) (pw_and (pt_cmpR (op_eqD hr.units) (pe_slice sl_list (pv 0) po_none (po_some pe_int)) (pe_lst (pa_cons pe_str (pa_cons pe_str pa_nil))) (nomark _)) (pw_and1 (pt_cmpR op_in_seq (pe_ix ix_list (pv 0) pe_int (fun _ _ => rfl)) (pe_glob (v := .ref c1) (by rfl) hc1 rfl) (by rfl)))))) (pss_one (ps_ret (pe_tup (pa_cons pe_str (pa_cons (pe_ix ix_list (pv 0) pe_int (fun _ _ => rfl)) pa_nil))))) pss_nil)
      (pss_cons (ps_if (PW.pt (pw_and (pt_cmpR op_eq (pe_callB call_len_seq (by rfl) TN.len PySem.boot_len (pa_cons (pv 0) pa_nil)) pe_int (nomark _)) (pw_and (pt_cmpR (op_eqD hr.units) (pe_slice sl_list (pv 0) (po_some pe_int) po_none) (pe_lst (pa_cons pe_str (pa_cons pe_str pa_nil))) (nomark _)) (pw_and1 (pt_cmpR op_in_seq (pe_ix ix_list (pv 0) pe_int (fun _ _ => rfl)) (pe_glob (v := .ref c1) (by rfl) hc1 rfl) (by rfl)))))) (pss_one (ps_ret (pe_tup (pa_cons pe_str (pa_cons (pe_ix ix_list (pv 0) pe_int (fun _ _ => rfl)) pa_nil))))) pss_nil)
      (pss_one (ps_ret (pe_call GC hr rfl gC kC bC .nil pass0 (pa_cons (pv 0) (pa_cons (pe_glob (v := .ref c2) (by rfl) hc2 rfl) pa_nil))))))), ?_⟩
    refine Says.ite (Says.and (fun Q h => ⟨_, rfl, a, _, rfl, .inl ha, rfl, _, rfl, by show Q (decide (V.int _ = V.int ((2 : Nat) : Int))) _; rw [dec_len]; exact h _ (Same.refl _)⟩) (fun G1 s1 h1 => (Says.and (fun Q h => ⟨_, rfl, a, _, 0, _, rfl, rfl, (s1.seq ha), wd_at (i := 0) (by omega), rfl, _, rfl, by rw [dec_str]; exact h _ (Same.refl _)⟩) (fun G2 s2 h2 => (fun Q h => ⟨_, rfl, a, _, 1, _, rfl, rfl, (s2.seq (s1.seq ha)), wd_at (i := 1) (by omega), c1, _, rfl, .inr (hC1 _), rfl, flat_str knownL, by rw [if_neg Bool.false_ne_true, inV_str]; exact ⟨_, rfl, h _ (Same.refl _)⟩⟩))))) (fun G1 t1 h1 => ?_) (fun G1 t1 h1 => ?_)
    · obtain ⟨z2, z⟩ := h1
      refine ⟨_, rfl, a, _, 1, _, rfl, rfl, t1.seq ha, wd_at (i := 1) (by omega), (by show 2 ≤ sizeLine; decide), fun p np => ?_⟩
      refine k _ _ (t1.trans (Same.new np)) ?_
      unfold hPartM
      rw [if_pos ⟨z2, z⟩]
      exact ⟨(by intro z; cases z), .tup (SqT.of upd_same) (.cons (.str _) (.cons (.str _) .nil))⟩
    have a1 := t1.seq ha
    refine nxt ?_
    dsimp only
    have wokT : WsOk (ws.take 2) := fun w hw => hok w (List.mem_of_mem_take hw)
    have wokD : WsOk (ws.drop 1) := fun w hw => hok w (List.mem_of_mem_drop hw)
    refine Says.ite (p := ws.length = 3 ∧ ws.take 2 = [("ahead" : Str), "used"] ∧ wd ws 2 ∈ knownL) ?_ (fun G2 t2 h2 => ?_) (fun G2 t2 h2 => ?_)
    · exact Says.and (fun Q h => ⟨_, rfl, a, _, rfl, .inl a1, rfl, _, rfl, by show Q (decide (V.int _ = V.int ((3 : Nat) : Int))) _; rw [dec_len]; exact h _ (Same.refl _)⟩) fun G2 s2 e3 => Says.and (slice_says (xs := [("ahead" : Str), "used"]) (s2.seq a1) wokT (cut_hi ws 2) (by decide) (by decide +kernel) (fun Q h => ⟨_, rfl, _, rfl, a, _, rfl, s2.seq a1, h⟩) (fun G Q h => h)) fun G3 s3 _ => (fun Q h => ⟨_, rfl, a, _, 2, _, rfl, rfl, ((s2.trans s3).seq a1), wd_at (i := 2) (by omega), c1, _, rfl, .inr (hC1 _), rfl, flat_str knownL, by rw [if_neg Bool.false_ne_true, inV_str]; exact ⟨_, rfl, h _ (Same.refl _)⟩⟩)
    · obtain ⟨z3, z, z'⟩ := h2
      refine ⟨_, rfl, a, _, 2, _, rfl, rfl, t2.seq a1, wd_at (i := 2) (by omega), (by show 2 ≤ sizeLine; decide), fun p np => ?_⟩
      refine k _ _ (t1.trans (t2.trans (Same.new np))) ?_
      unfold hPartM
      rw [if_neg h1, if_pos ⟨z3, ((head_two z3).mp z).1, ((head_two z3).mp z).2, z'⟩]
      exact ⟨(by intro z; cases z), .tup (SqT.of upd_same) (.cons (.str _) (.cons (.str _) .nil))⟩
    have h2' : ¬ (ws.length = 3 ∧ wd ws 0 = "ahead" ∧ wd ws 1 = "used" ∧ wd ws 2 ∈ knownL) := fun z => h2 ⟨z.1, (head_two z.1).mpr ⟨z.2.1, z.2.2.1⟩, z.2.2.2⟩
    have a2 := t2.seq a1
    refine nxt ?_
    dsimp only
    refine Says.ite (p := ws.length = 3 ∧ ws.drop 1 = [("is" : Str), "bin"] ∧ wd ws 0 ∈ knownL) ?_ (fun G3 t3 h3 => ?_) (fun G3 t3 h3 => ?_)
    · exact Says.and (fun Q h => ⟨_, rfl, a, _, rfl, .inl a2, rfl, _, rfl, by show Q (decide (V.int _ = V.int ((3 : Nat) : Int))) _; rw [dec_len]; exact h _ (Same.refl _)⟩) fun G2 s2 e3 => Says.and (slice_says (xs := [("is" : Str), "bin"]) (s2.seq a2) wokD (cut_lo ws 1) (by decide) (by decide +kernel) (fun Q h => ⟨_, rfl, _, rfl, a, _, rfl, s2.seq a2, h⟩) (fun G Q h => h)) fun G3 s3 _ => (fun Q h => ⟨_, rfl, a, _, 0, _, rfl, rfl, ((s2.trans s3).seq a2), wd_at (i := 0) (by omega), c1, _, rfl, .inr (hC1 _), rfl, flat_str knownL, by rw [if_neg Bool.false_ne_true, inV_str]; exact ⟨_, rfl, h _ (Same.refl _)⟩⟩)
    · obtain ⟨z3, z, z'⟩ := h3
      refine ⟨_, rfl, a, _, 0, _, rfl, rfl, t3.seq a2, wd_at (i := 0) (by omega), (by show 2 ≤ sizeLine; decide), fun p np => ?_⟩
      refine k _ _ (t1.trans (t2.trans (t3.trans (Same.new np)))) ?_
      unfold hPartM
      rw [if_neg h1, if_neg h2', if_pos ⟨z3, ((tail_two z3).mp z).1, ((tail_two z3).mp z).2, z'⟩]
      exact ⟨(by intro z; cases z), .tup (SqT.of upd_same) (.cons (.str _) (.cons (.str _) .nil))⟩
    have h3' : ¬ (ws.length = 3 ∧ wd ws 1 = "is" ∧ wd ws 2 = "bin" ∧ wd ws 0 ∈ knownL) := fun z => h3 ⟨z.1, (tail_two z.1).mpr ⟨z.2.1, z.2.2.1⟩, z.2.2.2⟩
    refine nxt ?_
    dsimp only
    have tA := t1.trans (t2.trans t3)
    refine ⟨_, rfl, a, c2, ws, namesL, rfl, tA.seq ha, hC2 _, hok.two, fun v G s res => k v G (tA.trans s) ?_⟩
    unfold hPartM
    rw [if_neg h1, if_neg h2', if_neg h3']
    exact res
end
end K15

set_option Elab.async false
set_option linter.all false
set_option maxRecDepth 100000
set_option maxHeartbeats 8000000
/-! Block codes, h: what a line does, its marks; lines; foreign words -/
namespace K15
open PySem L2
/-- what a line does -/
inductive St where
  | fin (s : Str)
  | set (so n : Str) (ds : List PyData) (c : Unit)
  | iff (t : PyData)
  | els
  | nd
def actsL : List Str := ["size", "size ahead", "set", "link", "copy", "go", "head", "resize", "foot", "flag", "tie"]
def St.d : St → PyData
  | .fin s => .tuple [.str s]
  | .set so n ds _ => .tuple (.str so :: .str n :: ds)
  | .iff t => .tuple [.str "if", t]
  | .els => .tuple [.str "else"]
  | .nd => .tuple [.str "end"]
def St.sort : St → Str
  | .fin s => s
  | .set so _ _ _ => so
  | .iff _ => "if"
  | .els => "else"
  | .nd => "end"
/-- the tests of an if as data -/
def testD (ps : List (Bool × Str × List PyData)) : PyData := .tuple (ps.map fun p => .tuple [.bool p.1, .tuple (.str p.2.1 :: p.2.2)])
def St.Ok : St → Prop
  | .fin s => s = "quit" ∨ s = "no"
  | .set so _ _ _ => so ∈ actsL
  | .iff t => ∃ ps, t = testD ps ∧ ps.length ≤ 4
  | _ => True
def partRead : PyData → Bool
  | .tuple [_, .tuple (.str s :: _)] => decide (s ∈ [("used" : Str), "ahead"])
  | _ => false
def iffMarks : PyData → List Str
  | .tuple ds => (ds.filter partRead).map fun _ => "read"
  | _ => []
def St.marks : St → List Str
  | .set so n _ _ => if so ∈ [("size" : Str), "size ahead", "link"] then [n, "read"] else if so ∈ [("set" : Str), "copy", "go"] then [n] else if so ∈ writingL then ["write"] else []
  | .iff t => iffMarks t
  | _ => []
def linesM (x : Str) : List Str := if x = Str.empty then [] else Txt.split x "\n"
def spMarks (K : PySem.W.Frag) : Sp := fun vs H Q _ => ∃ (v : V) (st : St), vs = [v] ∧ TDp K H v st.d ∧ st.Ok ∧ ∀ p H', Same H H' → H' p = some (.lst (st.marks.map V.str)) → Q (.ref p) H'
def spLines : Sp := fun vs H Q _ => ∃ x : Str, vs = [.str x] ∧ x.length + 2 ≤ sizeLine ∧ ∀ p H', Same H H' → H' p = some (.lst ((linesM x).map V.str)) → Q (.ref p) H'
def foreignM (row : Str) (st : St) (kd : Str) : Bool := decide ((kd = "free" ∧ ("want" : Str) ∈ Txt.split row " ") ∨ (st.sort = "no" ∧ (kd = "free" ∨ kd = "cut")))
def spForeign (K : PySem.W.Frag) : Sp := fun vs H Q _ => ∃ (row kd : Str) (v : V) (st : St), vs = [.str row, v, .str kd] ∧ TDp K H v st.d ∧ row.length + 2 ≤ sizeLine ∧ ∀ H', Same H H' → Q (.bl (foreignM row st kd)) H'
theorem St.head {K : PySem.W.Frag} {H : Hp} {v : V} {st : St} (h : TDp K H v st.d) : ∃ a rest, v = .ref a ∧ SqT K H a (.str st.sort :: rest) := by
  cases st <;>
  · cases h with
    | tup hs ha =>
      cases ha with
      | cons h1 hr =>
        cases h1
        exact ⟨_, _, rfl, hs⟩
theorem St.second {K : PySem.W.Frag} {H : Hp} {v : V} {so n : Str} {ds : List PyData} {c : Unit} (h : TDp K H v (St.set so n ds c).d) : ∃ a rest, v = .ref a ∧ SqT K H a (.str so :: .str n :: rest) := by
  cases h with
  | tup hs ha =>
    cases ha with
    | cons h1 hr =>
      cases hr with
      | cons h2 hr =>
        cases h1
        cases h2
        exact ⟨_, _, rfl, hs⟩
theorem tdp_len {K : PySem.W.Frag} {H : Hp} : ∀ {vs : List V} {ds : List PyData}, TDpAll K H vs ds → vs.length = ds.length
  | _, _, .nil => rfl
  | _, _, .cons _ t => by rw [List.length_cons, List.length_cons, tdp_len t]
theorem tdp_get {K : PySem.W.Frag} {H : Hp} {β : Type} {f : β → PyData} : ∀ {vs : List V} {ps : List β} {i : Nat} {x : V}, TDpAll K H vs (ps.map f) → vs[i]? = some x → ∃ p, ps[i]? = some p ∧ TDp K H x (f p)
  | _, [], _, _, .nil, e => by simp at e
  | _, p :: ps, 0, x, .cons h _, e => ⟨p, rfl, by cases (show some _ = some x from e); exact h⟩
  | _, p :: ps, i + 1, x, .cons _ t, e => tdp_get (i := i) t e
theorem part_at {K : PySem.W.Frag} {H : Hp} {x : V} {b : Bool} {s : Str} {r : List PyData} (h : TDp K H x (.tuple [.bool b, .tuple (.str s :: r)])) : ∃ (b3 : Addr) (vb : V) (b4 : Addr) (rest : List V), x = .ref b3 ∧ SqT K H b3 [vb, .ref b4] ∧ SqT K H b4 (.str s :: rest) := by
  cases h with
  | tup hs hd =>
  cases hd with
  | cons h1 hd =>
  cases hd with
  | cons h2 hd =>
  cases hd
  cases h2 with
  | tup hs2 hd2 =>
  cases hd2 with
  | cons h3 hd2 =>
  cases h3
  exact ⟨_, _, _, _, rfl, hs, hs2⟩
theorem marks_eq (ps : List (Bool × Str × List PyData)) : ((ps.map fun p => PyData.tuple [.bool p.1, .tuple (.str p.2.1 :: p.2.2)]).filter partRead).map (fun _ => ("read" : Str)) = (ps.filter fun p => decide (p.2.1 ∈ [("used" : Str), "ahead"])).map fun _ => ("read" : Str) := by
  induction ps with
  | nil => rfl
  | cons p r ih =>
    rw [List.map_cons, List.filter_cons, List.filter_cons]
    show (if decide (p.2.1 ∈ [("used" : Str), "ahead"]) = true then _ else _ : List PyData).map _ = _
    split
    · rw [List.map_cons, ih, List.map_cons]
    · exact ih
theorem Says.retIf {A : TT} {ta tb : TE} {D : Ends} {σ : L2.St} {H : Hp} {p : Prop} [Decidable p] (ha : Says A σ H p) (ht : ∀ G, Same H G → p → ta σ G D.rt) (he : ∀ G, Same H G → ¬ p → tb σ G D.rt) : tRet (tIf A ta tb) D σ H := ha _ fun G s => by
  by_cases c : p
  · rw [if_pos (decide_eq_true c)]
    exact ht G s c
  · rw [if_neg (by rw [decide_eq_false c]; decide)]
    exact he G s c
abbrev nmMarks : List Str := ["step", "_", "part"]
section
variable {P : Program} {w : World} {K : PySem.W.Frag} {mg : Str → Option Value} {base : Heap}
theorem scMarks : FnScope nmMarks ["step"] (defScope sMarks) := ⟨rfl, rfl, rfl, by decide +kernel, rfl, by decide +kernel, by decide +kernel⟩
theorem ok_marks {f : Addr} {fd : FuncData} (F : Fun K "marks_of" "marks_of" sMarks f fd) (T : TxtC K w mg) : FnOk P w K mg base CX0 1 f fd ["step"] (spMarks K) := by
  obtain ⟨c6, hc6, hC6⟩ := T.wr
  refine F.ok scMarks (fun vs H Q E h => ?_) (fun cdv A outer s H vs Q E hr h => ?_)
  · obtain ⟨v, st, rfl, _⟩ := h
    rfl
  · obtain ⟨v, st, rfl, hv, hst, k⟩ := h
    refine ⟨_, pss_cons (ps_if (pt_cmpR op_eq (pe_ix ix_tup (pv 0) pe_int (fun _ _ => rfl)) pe_str (nomark _)) (pss_one (ps_ret (pe_lc (own := [("_", 1), ("part", 2)]) (g := gTup K 2 (gCons (gName 1) (gCons (gName 2) gNil))) (te := tC (.str "read")) rfl scMarks.nd (by exact pi_tup (pe_ix ix_tup (pv 0) pe_int (fun _ _ => rfl))) (blkOk_by (own := [("_", 1), ("part", 2)]) (N := nmMarks) (sc := defScope sMarks) (by decide +kernel)) (fun _ _ _ _ _ => by exact pg_tup rfl (pgs_cons (pg_name (i := 1) scMarks.nd rfl (Or.inl rfl)) (pgs_cons (pg_name (i := 2) scMarks.nd rfl (Or.inl rfl)) pgs_nil))) (fun _ _ _ _ _ => pts_one (pt_cmpR (show OpR _ _ (rIn K false) from op_in_seq) (pe_ix (show IxR _ (rIxT K) from ix_tup) (pv 2) pe_int (fun _ _ => rfl)) (pe_tup (pa_cons pe_str (pa_cons pe_str pa_nil))) (by rfl))) (fun _ _ _ _ _ => pe_str)))) pss_nil)
      (pss_cons (ps_if (pt_cmpR op_in_seq (pe_ix ix_tup (pv 0) pe_int (fun _ _ => rfl)) (pe_tup (pa_cons pe_str (pa_cons pe_str (pa_cons pe_str pa_nil)))) (by rfl)) (pss_one (ps_ret (pe_lst (pa_cons (pe_ix ix_tup (pv 0) pe_int (fun _ _ => rfl)) (pa_cons pe_str pa_nil))))) pss_nil)
      (pss_cons (ps_if (pt_cmpR op_in_seq (pe_ix ix_tup (pv 0) pe_int (fun _ _ => rfl)) (pe_tup (pa_cons pe_str (pa_cons pe_str (pa_cons pe_str pa_nil)))) (by rfl)) (pss_one (ps_ret (pe_lst (pa_cons (pe_ix ix_tup (pv 0) pe_int (fun _ _ => rfl)) pa_nil)))) pss_nil)
      (pss_one (ps_ret (pe_ifExp (pt_cmpR op_in_seq (pe_ix ix_tup (pv 0) pe_int (fun _ _ => rfl)) (pe_glob (v := .ref c6) (by rfl) hc6 rfl) (by rfl)) (pe_lst (pa_cons pe_str pa_nil)) (pe_lst pa_nil)))))), ?_⟩
    obtain ⟨b, rest, rfl, hb⟩ := St.head hv
    refine ⟨_, rfl, b, _, 0, _, rfl, rfl, hb, atI_nat (j := 0) rfl, rfl, _, rfl, ?_⟩
    rw [dec_str]
    by_cases hi : st.sort = "if"
    · rw [decide_eq_true hi]
      refine iteT ?_
      cases st with
      | iff t =>
        obtain ⟨ps, rfl, hps⟩ := hst
        cases hv with
        | tup hs hd =>
        cases hd with
        | cons h1 hd =>
        cases hd with
        | @cons v2 _ _ _ h2 hd =>
        cases hd
        cases h1
        cases h2 with
        | @tup b2 xs ds hs2 hd2 =>
        refine ⟨_, rfl, b, _, 1, _, rfl, rfl, hs, atI_nat (j := 1) rfl, b2, rfl, ⟨_, hs2⟩, fun A0 nA => ?_⟩
        have len : xs.length = ps.length := by rw [tdp_len hd2, List.length_map]
        refine lc_tup (K := K) (a := b2) (xs := xs) (fun i G => Same H G ∧ G A0 = some (.lst ((((ps.take i).filter fun p => decide (p.2.1 ∈ [("used" : Str), "ahead"])).map fun _ => ("read" : Str)).map V.str))) ⟨Same.new nA, upd_same⟩ (fun i G _ hp => Same.tk hp.1 _ _ _ hs2) ?_ ?_
        · rintro i x G hx ⟨sG, gA⟩
          obtain ⟨pp, hpp, hd⟩ := tdp_get hd2 hx
          obtain ⟨b3, vb, b4, rest4, rfl, hb3, hb4⟩ := part_at hd
          refine ⟨b3, _, rfl, Same.tk sG _ _ _ hb3, rfl, _, _, rfl, _, _, rfl, rfl, ?_⟩
          refine ⟨rfl, ?_⟩
          refine ⟨_, rfl, b4, _, 0, _, rfl, rfl, Same.tk sG _ _ _ hb4, atI_nat (j := 0) rfl, (by show 2 ≤ sizeLine; decide), fun qq nqq => ⟨qq, _, rfl, .inr (SqT.of upd_same), rfl, flat_str [("used" : Str), "ahead"], ?_⟩⟩
          rw [if_neg Bool.false_ne_true]
          refine ⟨_, rfl, ?_⟩
          show if inV (V.str pp.2.1) ([("used" : Str), "ahead"].map V.str) = true then _ else _
          rw [inV_str]
          have tk := take_more hpp
          have s2 := sG.trans (Same.new (o := .tup [.str "used", .str "ahead"]) nqq)
          have g2 := (Same.new (o := .tup [.str "used", .str "ahead"]) nqq) _ _ gA
          by_cases c : pp.2.1 ∈ [("used" : Str), "ahead"]
          · rw [decide_eq_true c]
            refine iteT ⟨_, g2, ?_, Same.write s2 nA, ?_⟩
            · rw [List.length_map, List.length_map]
              exact Nat.lt_of_le_of_lt (Nat.le_trans (List.length_filter_le _ _) (Nat.le_trans (List.length_take_le' _ _) hps)) (by decide)
            · have e1 : ([pp].filter fun p => decide (p.2.1 ∈ [("used" : Str), "ahead"])) = [pp] := by
                rw [List.filter_cons, decide_eq_true c]
                rfl
              rw [tk, List.filter_append, List.map_append, List.map_append, upd_same, e1]
              rfl
          · rw [decide_eq_false c]
            refine iteF ⟨s2, ?_⟩
            have e1 : ([pp].filter fun p => decide (p.2.1 ∈ [("used" : Str), "ahead"])) = [] := by
              rw [List.filter_cons, decide_eq_false c]
              rfl
            rw [tk, List.filter_append, g2, e1, List.append_nil]
        rintro G ⟨sG, gA⟩
        refine k A0 G sG ?_
        rw [gA, len, List.take_length]
        show _ = some (HO.lst ((((ps.map fun p => PyData.tuple [.bool p.1, .tuple (.str p.2.1 :: p.2.2)]).filter partRead).map fun _ => ("read" : Str)).map V.str))
        rw [marks_eq]
      | set so n ds c =>
        have z : so = "if" := hi
        have y : so ∈ actsL := hst
        rw [z] at y
        exact absurd y (by decide +kernel)
      | fin x =>
        have z : x = "if" := hi
        rcases hst with e | e
        · rw [z] at e; exact absurd e (by decide +kernel)
        · rw [z] at e; exact absurd e (by decide +kernel)
      | els => exact absurd hi (by decide +kernel)
      | nd => exact absurd hi (by decide +kernel)
    rw [decide_eq_false hi]
    refine iteF ?_
    refine nxt ?_
    dsimp only
    have tup : ∀ {G : Hp}, Same H G → SqT K G b (.str st.sort :: rest) := fun s => Same.tk s _ _ _ hb
    refine Says.ite (p := st.sort ∈ [("size" : Str), "size ahead", "link"]) (fun Q h => ⟨_, rfl, b, _, 0, _, rfl, rfl, hb, atI_nat (j := 0) rfl, (by show 3 ≤ sizeLine; decide), fun qq nqq => ⟨qq, _, rfl, .inr (SqT.of upd_same), rfl, flat_str [("size" : Str), ("size ahead" : Str), ("link" : Str)], by rw [if_neg Bool.false_ne_true]; exact ⟨_, rfl, by show Q (inV (V.str _) ([("size" : Str), ("size ahead" : Str), ("link" : Str)].map V.str)) _; rw [inV_str]; exact h _ (Same.new nqq)⟩⟩⟩) (fun G1 t1 h1 => ?_) (fun G1 t1 h1 => ?_)
    · cases st with
      | set so n ds c =>
        obtain ⟨b', rest', e, hb'⟩ := St.second hv
        cases e
        refine ⟨_, rfl, b, _, 1, _, rfl, rfl, Same.tk t1 _ _ _ hb', atI_nat (j := 1) rfl, (by show 2 ≤ sizeLine; decide), fun p np => ?_⟩
        refine k p _ (t1.trans (Same.new np)) ?_
        rw [upd_same]
        show _ = some (HO.lst ((if so ∈ [("size" : Str), "size ahead", "link"] then [n, "read"] else if so ∈ [("set" : Str), "copy", "go"] then [n] else if so ∈ writingL then ["write"] else []).map V.str))
        rw [if_pos (show so ∈ [("size" : Str), "size ahead", "link"] from h1)]
        rfl
      | fin x =>
        rcases hst with e | e
        · subst e; exact absurd h1 (by decide +kernel)
        · subst e; exact absurd h1 (by decide +kernel)
      | iff t => exact absurd rfl hi
      | els => exact absurd h1 (by decide +kernel)
      | nd => exact absurd h1 (by decide +kernel)
    refine nxt ?_
    dsimp only
    refine Says.ite (p := st.sort ∈ [("set" : Str), "copy", "go"]) (fun Q h => ⟨_, rfl, b, _, 0, _, rfl, rfl, (tup t1), atI_nat (j := 0) rfl, (by show 3 ≤ sizeLine; decide), fun qq nqq => ⟨qq, _, rfl, .inr (SqT.of upd_same), rfl, flat_str [("set" : Str), ("copy" : Str), ("go" : Str)], by rw [if_neg Bool.false_ne_true]; exact ⟨_, rfl, by show Q (inV (V.str _) ([("set" : Str), ("copy" : Str), ("go" : Str)].map V.str)) _; rw [inV_str]; exact h _ (Same.new nqq)⟩⟩⟩) (fun G2 t2 h2 => ?_) (fun G2 t2 h2 => ?_)
    · cases st with
      | set so n ds c =>
        obtain ⟨b', rest', e, hb'⟩ := St.second hv
        cases e
        refine ⟨_, rfl, b, _, 1, _, rfl, rfl, Same.tk (t1.trans t2) _ _ _ hb', atI_nat (j := 1) rfl, (by show 1 ≤ sizeLine; decide), fun p np => ?_⟩
        refine k p _ ((t1.trans t2).trans (Same.new np)) ?_
        rw [upd_same]
        show _ = some (HO.lst ((if so ∈ [("size" : Str), "size ahead", "link"] then [n, "read"] else if so ∈ [("set" : Str), "copy", "go"] then [n] else if so ∈ writingL then ["write"] else []).map V.str))
        rw [if_neg (show ¬ so ∈ [("size" : Str), "size ahead", "link"] from h1), if_pos (show so ∈ [("set" : Str), "copy", "go"] from h2)]
        rfl
      | fin x =>
        rcases hst with e | e
        · subst e; exact absurd h2 (by decide +kernel)
        · subst e; exact absurd h2 (by decide +kernel)
      | iff t => exact absurd rfl hi
      | els => exact absurd h2 (by decide +kernel)
      | nd => exact absurd h2 (by decide +kernel)
    refine nxt ?_
    dsimp only
    have t12 := t1.trans t2
    refine Says.retIf (p := st.sort ∈ writingL) (fun Q h => ⟨_, rfl, b, _, 0, _, rfl, rfl, tup t12, atI_nat (j := 0) rfl, c6, _, rfl, .inr (hC6 _), rfl, flat_str writingL, by rw [if_neg Bool.false_ne_true, inV_str]; exact ⟨_, rfl, h _ (Same.refl _)⟩⟩) (fun G3 t3 h3 => ?_) (fun G3 t3 h3 => ?_)
    · refine ⟨(by show 1 ≤ sizeLine; decide), fun p np => ?_⟩
      refine k p _ ((t12.trans t3).trans (Same.new np)) ?_
      rw [upd_same]
      cases st with
      | set so n ds c =>
        show _ = some (HO.lst ((if so ∈ [("size" : Str), "size ahead", "link"] then [n, "read"] else if so ∈ [("set" : Str), "copy", "go"] then [n] else if so ∈ writingL then ["write"] else []).map V.str))
        rw [if_neg (show ¬ so ∈ [("size" : Str), "size ahead", "link"] from h1), if_neg (show ¬ so ∈ [("set" : Str), "copy", "go"] from h2), if_pos (show so ∈ writingL from h3)]
        rfl
      | fin x =>
        rcases hst with e | e
        · subst e; exact absurd h3 (by decide +kernel)
        · subst e; exact absurd h3 (by decide +kernel)
      | iff t => exact absurd rfl hi
      | els => exact absurd h3 (by decide +kernel)
      | nd => exact absurd h3 (by decide +kernel)
    · have no : st.marks = [] := by
        cases st with
        | set so n ds c =>
          show (if so ∈ [("size" : Str), "size ahead", "link"] then [n, "read"] else if so ∈ [("set" : Str), "copy", "go"] then [n] else if so ∈ writingL then ["write"] else []) = _
          rw [if_neg (show ¬ so ∈ [("size" : Str), "size ahead", "link"] from h1), if_neg (show ¬ so ∈ [("set" : Str), "copy", "go"] from h2), if_neg (show ¬ so ∈ writingL from h3)]
        | fin x => rfl
        | iff t => exact absurd rfl hi
        | els => rfl
        | nd => rfl
      exact ⟨(by show 0 ≤ sizeLine; decide), fun p np => k p _ ((t12.trans t3).trans (Same.new np)) (by rw [no, upd_same]; rfl)⟩
theorem scLines : FnScope ["text"] ["text"] (defScope sLines) := ⟨rfl, rfl, rfl, by decide +kernel, rfl, by decide +kernel, by decide +kernel⟩
theorem ok_lines {f : Addr} {fd : FuncData} (F : Fun K "lines_of" "lines_of" sLines f fd) : FnOk P w K mg base CX0 1 f fd ["text"] spLines := by
  refine F.ok scLines (fun vs H Q E h => ?_) (fun cdv A outer s H vs Q E hr h => ?_)
  · obtain ⟨x, rfl, _⟩ := h
    rfl
  · obtain ⟨x, rfl, hx, k⟩ := h
    refine ⟨_, pss_cons (ps_if (pt_cmpR op_eq (pv 0) pe_str (nomark _)) (pss_one (ps_ret (pe_lst pa_nil))) pss_nil)
      (pss_one (ps_ret (pe_split (pv 0) pe_str))), ?_⟩
    refine ⟨_, rfl, rfl, _, rfl, ?_⟩
    unfold linesM at k
    refine ite2 (fun h1 => ?_) (fun h1 => ?_)
    · have e : x = Str.empty := V.str.inj (of_decide_eq_true h1)
      rw [if_pos e] at k
      exact ⟨by decide, fun p np => k p _ (Same.new np) upd_same⟩
    · have e : ¬ x = Str.empty := fun z => h1 (decide_eq_true (congrArg V.str z))
      rw [if_neg e] at k
      refine ⟨_, rfl, ⟨_, rfl⟩, x, _, rfl, rfl, rfl, hx, fun p np => ?_⟩
      exact k p _ (Same.new np) upd_same
end
end K15

set_option Elab.async false
set_option linter.all false
set_option maxRecDepth 100000
set_option maxHeartbeats 8000000
/-! Block codes, i: foreign words; rules made -/
namespace K15
open PySem L2
abbrev sWh : Stmt := top 13
abbrev sFrom : Stmt := top 14
abbrev sBR : Stmt := inClass (top 59) 0
structure TxtWh (mg : Str → Option Value) : Prop where
  isi : mg "isinstance" = none
  int : mg "int" = none
  bool : mg "bool" = none
def spWh : Sp := fun vs H Q _ => ∃ i : Int, vs = [.int i] ∧ Q (.bl true) H
def spFrom : Sp := fun vs H Q _ => ∃ i l : Int, vs = [.int i, .int l] ∧ Q (.bl (decide (l ≤ i))) H
section
variable {P : Program} {w : World} {K : PySem.W.Frag} {mg : Str → Option Value} {base : Heap}
theorem scForeign : FnScope ["row", "step", "kind"] ["row", "step", "kind"] (defScope sForeign) := ⟨rfl, rfl, rfl, by decide +kernel, rfl, by decide +kernel, by decide +kernel⟩
theorem ok_foreign {f : Addr} {fd : FuncData} (F : Fun K "is_foreign" "is_foreign" sForeign f fd) : FnOk P w K mg base CX0 1 f fd ["row", "step", "kind"] (spForeign K) := by
  refine F.ok scForeign (fun vs H Q E h => ?_) (fun cdv A outer s H vs Q E hr h => ?_)
  · obtain ⟨row, kd, v, st, rfl, _⟩ := h
    rfl
  · obtain ⟨row, kd, v, st, rfl, hv, hrow, k⟩ := h
    refine ⟨_, pss_cons (ps_if (PW.pt (pw_and (pt_cmpR op_eq (pv 2) pe_str (nomark _)) (pw_and1 (pt_cmpR op_in_seq pe_str (pe_split (pv 0) pe_str) (by rfl))))) (pss_one (ps_ret pe_bl)) pss_nil)
      (pss_one (ps_ret (pe_and (pe_cmpR op_eq (pe_ix ix_tup (pv 1) pe_int (fun _ _ => rfl)) pe_str (nomark _)) (pe_one (pe_cmpR op_in_seq (pv 2) (pe_tup (pa_cons pe_str (pa_cons pe_str pa_nil))) (by rfl)))))), ?_⟩
    obtain ⟨b, rest, rfl, hb⟩ := St.head hv
    refine Says.ite (p := kd = "free" ∧ ("want" : Str) ∈ Txt.split row " ") (Says.and (fun Q h => ⟨_, rfl, rfl, _, rfl, by rw [dec_str]; exact h _ (Same.refl _)⟩) (fun G1 s1 h1 => (fun Q h => ⟨_, rfl, ⟨_, rfl⟩, row, _, rfl, rfl, rfl, hrow, fun q nq => ⟨q, _, rfl, .inl (SqL.of upd_same), rfl, flat_str _, by rw [if_neg Bool.false_ne_true, inV_str]; exact ⟨_, rfl, h _ (Same.new nq)⟩⟩⟩))) (fun G1 t1 h1 => ?_) (fun G1 t1 h1 => ?_)
    · refine (show Q (.bl true) G1 from ?_)
      have z := k G1 t1
      rw [show foreignM row st kd = true from decide_eq_true (.inl h1)] at z
      exact z
    refine nxt ?_
    dsimp only
    refine ⟨_, rfl, b, _, 0, _, rfl, rfl, Same.tk t1 _ _ _ hb, atI_nat (j := 0) rfl, rfl, _, rfl, ?_⟩
    rw [dec_str]
    unfold foreignM at k
    by_cases hn : st.sort = "no"
    · rw [decide_eq_true hn]
      refine iteT ?_
      refine ⟨_, rfl, (by show 2 ≤ sizeLine; decide), fun q nq => ⟨q, _, rfl, .inr (SqT.of upd_same), rfl, flat_str [("free" : Str), ("cut" : Str)], ?_⟩⟩
      rw [if_neg Bool.false_ne_true]
      show Q (.bl (inV (V.str kd) ([("free" : Str), ("cut" : Str)].map V.str))) _
      rw [inV_str]
      have z := k _ (t1.trans (Same.new (o := .tup [.str "free", .str "cut"]) nq))
      rw [show decide ((kd = "free" ∧ ("want" : Str) ∈ Txt.split row " ") ∨ (st.sort = "no" ∧ (kd = "free" ∨ kd = "cut"))) = decide (kd ∈ [("free" : Str), "cut"]) from decide_eq_decide.mpr ⟨fun h => by
        rcases h with h | ⟨_, h | h⟩
        · exact absurd h h1
        · rw [h]; exact .head _
        · rw [h]; exact .tail _ (.head _), fun h => .inr ⟨hn, by
        rcases List.mem_cons.mp h with h | h
        · exact .inl h
        · exact .inr (List.mem_singleton.mp h)⟩⟩] at z
      exact z
    · rw [decide_eq_false hn]
      refine iteF ?_
      have z := k _ t1
      rw [decide_eq_false (fun h => by
        rcases h with h | ⟨h, _⟩
        · exact h1 h
        · exact hn h)] at z
      exact z
theorem scWhl : FnScope ["value"] ["value"] (defScope sWh) := ⟨rfl, rfl, rfl, by decide +kernel, rfl, by decide +kernel, by decide +kernel⟩
theorem ok_wh {f : Addr} {fd : FuncData} (F : Fun K "is_whole" "is_whole" sWh f fd) (T : TxtWh mg) : FnOk P w K mg base CX0 1 f fd ["value"] spWh := by
  refine F.ok scWhl (fun vs H Q E h => ?_) (fun cdv A outer s H vs Q E hr h => ?_)
  · obtain ⟨i, rfl, _⟩ := h
    rfl
  · obtain ⟨i, rfl, k⟩ := h
    refine ⟨_, pss_one (ps_ret (pe_and (pe_callB (id := "isinstance") call_isi (by rfl) T.isi (by decide +kernel) (pa_cons (pv 0) (pa_cons (pe_bltn (v := .ty "int") (by rfl) T.int (by decide +kernel) rfl) pa_nil)))
      (pe_one (pe_not (pe_callB (id := "isinstance") call_isi (by rfl) T.isi (by decide +kernel) (pa_cons (pv 0) (pa_cons (pe_bltn (v := .ty "bool") (by rfl) T.bool (by decide +kernel) rfl) pa_nil))))))), ?_⟩
    refine ⟨_, rfl, .int i, .ty "int", .type "int", .type "int", true, rfl, .ty _, .base (.int _), rfl, _, rfl, ?_⟩
    refine iteT ?_
    refine ⟨_, rfl, .int i, .ty "bool", .type "int", .type "bool", false, rfl, .ty _, .base (.int _), rfl, _, rfl, ?_⟩
    exact k
theorem scFrom : FnScope ["value", "least"] ["value", "least"] (defScope sFrom) := ⟨rfl, rfl, rfl, by decide +kernel, rfl, by decide +kernel, by decide +kernel⟩
theorem ok_from {f fW : Addr} {fd fdW : FuncData} (F : Fun K "is_from" "is_from" sFrom f fd)
    (GW : FnOk P w K mg base CX0 1 fW fdW ["value"] spWh) (kW : PySem.W.keepIn K (.ref fW) = true) (bW : Binds K fdW ["value"] []) (gW : mg "is_whole" = some (.ref fW)) : FnOk P w K mg base CX0 2 f fd ["value", "least"] spFrom := by
  refine F.ok scFrom (fun vs H Q E h => ?_) (fun cdv A outer s H vs Q E hr h => ?_)
  · obtain ⟨i, l, rfl, _⟩ := h
    rfl
  · obtain ⟨i, l, rfl, k⟩ := h
    refine ⟨_, pss_one (ps_ret (pe_and (pe_call GW hr rfl gW kW bW .nil pass0 (pa_cons (pv 0) pa_nil)) (pe_one (pe_cmpR op_ge (pv 0) (pv 1) (nomark _))))), ?_⟩
    refine ⟨_, rfl, i, rfl, _, rfl, ?_⟩
    refine iteT ?_
    exact ⟨_, rfl, _, rfl, i, l, rfl, rfl, k⟩
end
end K15

set_option Elab.async false
set_option linter.all false
set_option maxRecDepth 100000
set_option maxHeartbeats 8000000
/-! Outlines, a: where ifs and elses lead -/
namespace K15
open PySem L2
abbrev sTargets : Stmt := top 26
abbrev sRead : Stmt := top 28
abbrev sOutl : Stmt := top 29
abbrev sWays : Stmt := top 30
abbrev sAbove : Stmt := top 31
abbrev sRefuse : Stmt := top 32
/-- the targets told so far, the places that wait -/
theorem acts_ne {so x : Str} (h : so ∈ actsL) (hx : ¬ x ∈ actsL) : ¬ so = x := fun z => hx (z ▸ h)
def tgGo : List St → Nat → List V → List Nat → Option (List V)
  | [], _, tg, _ => some tg
  | .iff _ :: r, i, tg, wt => tgGo r (i + 1) tg (wt ++ [i])
  | .els :: r, i, tg, wt => match wt.getLast? with
    | none => none
    | some j => tgGo r (i + 1) (tg.set j (.int ((i + 2 : Nat) : Int))) (wt.dropLast ++ [i])
  | .nd :: r, i, tg, wt => match wt.getLast? with
    | none => none
    | some j => tgGo r (i + 1) (tg.set j (.int ((i + 2 : Nat) : Int))) wt.dropLast
  | _ :: r, i, tg, wt => tgGo r (i + 1) tg wt
def tgM (sts : List St) : Option (List V) := tgGo sts 0 (List.replicate sts.length .non) []
def StsAt (K : PySem.W.Frag) (H : Hp) : List V → List St → Prop := Paired fun v st => TDp K H v st.d ∧ st.Ok
theorem Paired.get {α β : Type} {F : α → β → Prop} : ∀ {l : List α} {m : List β} {i : Nat} {x : α}, Paired F l m → l[i]? = some x → ∃ y, m[i]? = some y ∧ F x y
  | _, _, i, _, .nil, e => by simp at e
  | _, _, 0, x, .cons h t, e => by
    simp at e
    subst e
    exact ⟨_, by simp, h⟩
  | _, _, i + 1, x, .cons h t, e => by
    simp only [List.getElem?_cons_succ] at e ⊢
    exact Paired.get t e
def spTargets (K : PySem.W.Frag) : Sp := fun vs H Q _ => ∃ (a : Addr) (xs : List V) (sts : List St) (tg : List V), vs = [.ref a] ∧ SqL K H a xs ∧ StsAt K H xs sts ∧ sts.length ≤ 1000 ∧ tgM sts = some tg ∧ ∀ t H', Same H H' → SqT K H' t tg → Q (.ref t) H'
theorem last_at {wt : List Nat} {j : Nat} (h : wt.getLast? = some j) : (wt.map fun n => V.int (n : Nat))[(wt.map fun n => V.int (n : Nat)).length - 1]? = some (.int j) := by
  rw [List.length_map, List.getElem?_map, ← List.getLast?_eq_getElem?, h]
  rfl
theorem ixN_nat {n j : Nat} (h : j < n) : ixN n (j : Int) = some j := by
  unfold ixN
  rw [if_pos (by omega), if_pos (by omega), Int.toNat_natCast]
theorem rep_flat : ∀ n : Nat, (List.replicate n [V.non]).flatten = List.replicate n V.non
  | 0 => rfl
  | n + 1 => by rw [List.replicate_succ, List.flatten_cons, rep_flat n]; rfl
section
variable {P : Program} {w : World} {K : PySem.W.Frag} {mg : Str → Option Value} {base : Heap}
theorem scTargets : FnScope ["steps", "targets", "waiting", "at", "step"] ["steps"] (defScope sTargets) := ⟨rfl, rfl, rfl, by decide +kernel, rfl, by decide +kernel, by decide +kernel⟩
theorem ok_targets {f : Addr} {fd : FuncData} (F : Fun K "targets_of" "targets_of" sTargets f fd) (T : TxtN mg) : FnOk P w K mg base CX0 1 f fd ["steps"] (spTargets K) := by
  refine F.ok scTargets (fun vs H Q E h => ?_) (fun cdv A outer s H vs Q E hr h => ?_)
  · obtain ⟨a, xs, sts, tg, rfl, _⟩ := h
    rfl
  · obtain ⟨a, xs, sts, tgF, rfl, ha, hst, hlen, htg, k⟩ := h
    have hn : xs.length = sts.length := Paired.length hst
    refine ⟨_, pss_cons (ps_set (i := 1) scTargets.nd rfl (.inl rfl) (pe_op op_rep (pe_lst (pa_cons pe_non pa_nil)) (pe_callB call_len_seq (by rfl) T.len PySem.boot_len (pa_cons (pv 0) pa_nil))))
      (pss_cons (ps_set (i := 2) scTargets.nd rfl (.inl rfl) (pe_lst pa_nil))
      (pss_cons (ps_for PassesOwn.never rfl (pi_enum (by rfl) T.enumerate (pa_cons (pv 0) pa_nil)) (pg_tup rfl (pgs_cons (pg_name (i := 3) scTargets.nd rfl (.inl rfl)) (pgs_cons (pg_name (i := 4) scTargets.nd rfl (.inl rfl)) pgs_nil)))
        (pss_one (ps_if (pt_cmpR op_in_seq (pe_ix ix_tup (pv 4) pe_int (fun _ _ => rfl)) (pe_tup (pa_cons pe_str (pa_cons pe_str pa_nil))) (by rfl))
          (pss_one (ps_expr (pe_bm PySem.F.plainAttrs_list PySem.F.slot_list_append PySem.F.type_list_append mt_append (pv 2) (pa_cons (pv 3) pa_nil))))
          (pss_one (ps_if (pt_cmpR op_eq (pe_ix ix_tup (pv 4) pe_int (fun _ _ => rfl)) pe_str (nomark _))
            (pss_cons (ps_asg (pe_op op_add (pv 3) pe_int) (pg_sub (pv 1) (pe_bm0 PySem.F.plainAttrs_list PySem.F.slot_list_pop PySem.F.type_list_pop mt_pop (pv 2)) set_list))
            (pss_one (ps_expr (pe_bm PySem.F.plainAttrs_list PySem.F.slot_list_append PySem.F.type_list_append mt_append (pv 2) (pa_cons (pv 3) pa_nil)))))
            (pss_one (ps_if (pt_cmpR op_eq (pe_ix ix_tup (pv 4) pe_int (fun _ _ => rfl)) pe_str (nomark _))
              (pss_one (ps_asg (pe_op op_add (pv 3) pe_int) (pg_sub (pv 1) (pe_bm0 PySem.F.plainAttrs_list PySem.F.slot_list_pop PySem.F.type_list_pop mt_pop (pv 2)) set_list)))
              pss_nil)))))))
      (pss_one (ps_ret (pe_callTy call_tuple_of (by rfl) T.tuple (by decide +kernel) (pa_cons (pv 1) pa_nil)))))), ?_⟩
    refine ⟨(by show 1 ≤ sizeLine; decide), fun l nl => ⟨_, rfl, a, _, rfl, .inl ((Same.new nl).seq ha), l, _, _, rfl, rfl, upd_same, by omega, by omega, ?_, fun T0 nT => ?_⟩⟩
    · rw [Int.toNat_natCast]
      show 1 * xs.length ≤ sizeLine
      rw [Nat.one_mul]
      exact Nat.le_of_lt (small1000 (by omega))
    rw [Int.toNat_natCast, rep_flat, hn]
    have s1 := (Same.new (o := .lst [V.non]) nl).trans (Same.new (o := .lst (List.replicate sts.length V.non)) nT)
    have HT : H T0 = none := by
      cases e : H T0 with
      | none => rfl
      | some o => exact absurd ((Same.new nl) _ _ e) (by rw [nT]; intro z; cases z)
    refine ⟨(by show 0 ≤ sizeLine; decide), fun W0 nW => ?_⟩
    have s2 := s1.trans (Same.new (o := .lst []) nW)
    have HW : H W0 = none := by
      cases e : H W0 with
      | none => rfl
      | some o => exact absurd (s1 _ _ e) (by rw [nW]; intro z; cases z)
    have TW : T0 ≠ W0 := ne_of_none upd_same nW
    refine ⟨_, rfl, a, xs, rfl, s2.seq ha, for_it walk_enum (fun i σ G => ∃ tg wt v3 v4, σ = [some (.ref a), some (.ref T0), some (.ref W0), v3, v4] ∧ Same H G ∧ G T0 = some (.lst tg) ∧ G W0 = some (.lst (wt.map fun n => V.int (n : Nat))) ∧
      tg.length = sts.length ∧ wt.length ≤ i ∧ (∀ j ∈ wt, j < i) ∧ tgGo (sts.drop i) i tg wt = some tgF)
      ⟨_, [], none, none, rfl, s2, by rw [upd_ne TW]; exact upd_same, upd_same, List.length_replicate, Nat.le_refl _, (fun j z => nomatch z), htg⟩ (fun i σ G _ ⟨_, _, _, _, _, e, _⟩ => e.seq ha) ?_ ?_⟩
    · rintro i y σ G G' hi ⟨tg, wt, v3, v4, rfl, hG, hT, hW, htl, hwl, hwj, hgo⟩ ⟨p, x, v, rfl, np, rfl, ex, ev⟩
      have ex' : x = .int (i : Nat) := (Option.some.inj ex).symm
      subst ex'
      obtain ⟨st, est, hv, hok⟩ := Paired.get hst ev
      have sp1 := Same.new (o := .tup [.int (i : Nat), v]) np
      obtain ⟨b, rest, rfl, hb1⟩ := St.head (hv.keep (Same.tk (hG.trans sp1)))
      rw [drop_cons est] at hgo
      refine ⟨p, _, rfl, SqT.of upd_same, rfl, _, _, rfl, _, _, rfl, rfl, ?_⟩
      refine ⟨_, rfl, b, _, 0, _, rfl, rfl, hb1, atI_nat (j := 0) rfl, (by show 2 ≤ sizeLine; decide), fun q nq => ?_⟩
      have sp := sp1.trans (Same.new (o := .tup [.str "if", .str "while"]) nq)
      have hG2 := hG.trans sp
      have hT2 := sp _ _ hT
      have hW2 := sp _ _ hW
      have hb := Same.tk (Same.new (o := .tup [.str "if", .str "while"]) nq) _ _ _ hb1
      refine ⟨q, _, rfl, .inr (SqT.of upd_same), rfl, rfl, ?_⟩
      rw [if_neg Bool.false_ne_true]
      refine ⟨_, rfl, ?_⟩
      have hi' : i < 1000 := by omega
      have hin : ∀ {x : Str}, ¬ x = "if" → ¬ x = "while" → inV (V.str x) [V.str "if", V.str "while"] = false := fun {x} h1 h2 => (inV_str x [("if" : Str), "while"]).trans (decide_eq_false fun z => by
        rcases List.mem_cons.mp z with e | e
        · exact h1 e
        · exact h2 (List.mem_singleton.mp e))
      have hnw : ¬ st.sort = "while" := by
        cases st with
        | fin x =>
          intro z
          have z' : x = _ := z
          rcases hok with e | e
          · rw [e] at z'
            exact absurd z' (by decide +kernel)
          · rw [e] at z'
            exact absurd z' (by decide +kernel)
        | set n sm sg c =>
          exact acts_ne hok (by decide +kernel)
        | iff t =>
          show ¬ ("if" : Str) = "while"
          decide +kernel
        | els =>
          show ¬ ("else" : Str) = "while"
          decide +kernel
        | nd =>
          show ¬ ("end" : Str) = "while"
          decide +kernel
      have e2 : ∀ x y : Str, x ≠ y → (decide (V.str x = V.str y)) = false := fun x y h => decide_eq_false fun z => h (V.str.inj z)
      by_cases hs3 : ¬ st.sort = "if" ∧ ¬ st.sort = "else" ∧ ¬ st.sort = "end"
      · have g : tgGo (sts.drop (i + 1)) (i + 1) tg wt = some tgF := by
          cases st with
          | fin x => exact hgo
          | set n sm sg c => exact hgo
          | iff t => exact absurd rfl hs3.1
          | els => exact absurd rfl hs3.2.1
          | nd => exact absurd rfl hs3.2.2
        refine ifF3 (hin hs3.1 hnw) ?_
        refine ⟨_, rfl, b, _, 0, _, rfl, rfl, hb, atI_nat (j := 0) rfl, rfl, _, rfl, ?_⟩
        refine ifF3 (e2 _ _ hs3.2.1) ?_
        refine ⟨_, rfl, b, _, 0, _, rfl, rfl, hb, atI_nat (j := 0) rfl, rfl, _, rfl, ?_⟩
        refine ifF3 (e2 _ _ hs3.2.2) ?_
        exact ⟨tg, wt, _, _, rfl, hG2, hT2, hW2, htl, by omega, (fun j hj => Nat.lt_succ_of_lt (hwj j hj)), g⟩
      have popped : ∀ j, wt.getLast? = some j → j < i ∧ wt ≠ [] := fun j hj => ⟨hwj j (List.mem_of_getLast? hj), fun z => by rw [z] at hj; cases hj⟩
      cases st with
      | fin x =>
        refine absurd ⟨fun z => ?_, fun z => ?_, fun z => ?_⟩ hs3
        all_goals
        · have z' : x = _ := z
          rcases hok with e | e
          · rw [e] at z'
            exact absurd z' (by decide +kernel)
          · rw [e] at z'
            exact absurd z' (by decide +kernel)
      | set n sm sg c =>
        have z1 : ¬ n = "if" := acts_ne hok (by decide +kernel)
        have z2 : ¬ n = "else" := acts_ne hok (by decide +kernel)
        have z3 : ¬ n = "end" := acts_ne hok (by decide +kernel)
        exact absurd ⟨z1, z2, z3⟩ hs3
      | iff t =>
        refine ifT3 ((inV_str "if" [("if" : Str), "while"]).trans (decide_eq_true (List.mem_cons_self ..))) ?_
        refine ⟨_, rfl, .inl ⟨rfl, _, SqL.of hW2⟩, _, rfl, W0, _, _, rfl, rfl, hW2, small1000 (by rw [List.length_map]; omega), ?_⟩
        exact ⟨tg, wt ++ [i], _, _, rfl, Same.write hG2 HW, by rw [upd_ne TW]; exact hT2, by rw [List.map_append]; exact upd_same, htl, by rw [List.length_append]; exact Nat.succ_le_succ hwl, (fun j hj => by
          rcases List.mem_append.mp hj with e | e
          · exact Nat.lt_succ_of_lt (hwj j e)
          · rw [List.mem_singleton.mp e]; exact Nat.lt_succ_self _), hgo⟩
      | els =>
        have z1 : ¬ ("else" : Str) = "if" := by decide +kernel
        refine ifF3 (hin z1 hnw) ?_
        refine ⟨_, rfl, b, _, 0, _, rfl, rfl, hb, atI_nat (j := 0) rfl, rfl, _, rfl, ?_⟩
        refine ifT3 (decide_eq_true rfl) ?_
        have hgo' : (match wt.getLast? with
          | none => none
          | some j => tgGo (sts.drop (i + 1)) (i + 1) (tg.set j (.int ((i + 2 : Nat) : Int))) (wt.dropLast ++ [i])) = some tgF := hgo
        cases ej : wt.getLast? with
        | none => rw [ej] at hgo'; cases hgo'
        | some j =>
        rw [ej] at hgo'
        obtain ⟨hji, hne⟩ := popped j ej
        refine ⟨_, rfl, _, _, rfl, rfl, _, rfl, _, rfl, .inl ⟨rfl, _, SqL.of hW2⟩, W0, _, _, rfl, rfl, hW2, last_at ej, ?_⟩
        refine ⟨T0, _, _, j, rfl, rfl, (by rw [upd_ne TW]; exact hT2), ixN_nat (by omega), ?_⟩
        have hW3 : (upd (upd (upd (upd G p (.tup [.int (i : Nat), .ref b])) q (.tup [.str "if", .str "while"])) W0 (.lst (wt.map fun n => V.int (n : Nat)).dropLast)) T0 (.lst (tg.set j (.int ((i : Int) + 2))))) W0 = some (.lst (wt.dropLast.map fun n => V.int (n : Nat))) := by
          rw [upd_ne TW.symm, upd_same, List.map_dropLast]
        refine ⟨_, rfl, .inl ⟨rfl, _, SqL.of hW3⟩, _, rfl, W0, _, _, rfl, rfl, hW3, small1000 (by rw [List.length_map, List.length_dropLast]; omega), ?_⟩
        exact ⟨_, wt.dropLast ++ [i], _, _, rfl, Same.write (Same.write (Same.write hG2 HW) HT) HW, by rw [upd_ne TW]; exact upd_same, by rw [List.map_append]; exact upd_same, by rw [List.length_set]; exact htl, by rw [List.length_append, List.length_dropLast]; show wt.length - 1 + 1 ≤ i + 1; omega, (fun j hj => by
          rcases List.mem_append.mp hj with e | e
          · exact Nat.lt_succ_of_lt (hwj j (List.dropLast_subset _ e))
          · rw [List.mem_singleton.mp e]; exact Nat.lt_succ_self _), hgo'⟩
      | nd =>
        have z1 : ¬ ("end" : Str) = "if" := by decide +kernel
        have z2 : ¬ ("end" : Str) = "else" := by decide +kernel
        refine ifF3 (hin z1 hnw) ?_
        refine ⟨_, rfl, b, _, 0, _, rfl, rfl, hb, atI_nat (j := 0) rfl, rfl, _, rfl, ?_⟩
        refine ifF3 (e2 _ _ z2) ?_
        refine ⟨_, rfl, b, _, 0, _, rfl, rfl, hb, atI_nat (j := 0) rfl, rfl, _, rfl, ?_⟩
        refine ifT3 (decide_eq_true rfl) ?_
        have hgo' : (match wt.getLast? with
          | none => none
          | some j => tgGo (sts.drop (i + 1)) (i + 1) (tg.set j (.int ((i + 2 : Nat) : Int))) wt.dropLast) = some tgF := hgo
        cases ej : wt.getLast? with
        | none => rw [ej] at hgo'; cases hgo'
        | some j =>
        rw [ej] at hgo'
        obtain ⟨hji, hne⟩ := popped j ej
        refine ⟨_, rfl, _, _, rfl, rfl, _, rfl, _, rfl, .inl ⟨rfl, _, SqL.of hW2⟩, W0, _, _, rfl, rfl, hW2, last_at ej, ?_⟩
        refine ⟨T0, _, _, j, rfl, rfl, (by rw [upd_ne TW]; exact hT2), ixN_nat (by omega), ?_⟩
        exact ⟨_, wt.dropLast, _, _, rfl, Same.write (Same.write hG2 HW) HT, upd_same, by rw [upd_ne TW.symm, upd_same, List.map_dropLast], by rw [List.length_set]; exact htl, by rw [List.length_dropLast]; omega, (fun j hj => Nat.lt_succ_of_lt (hwj j (List.dropLast_subset _ hj))), hgo'⟩
    · rintro σ G ⟨tg, wt, v3, v4, rfl, hG, hT, hW, htl, hwl, hwj, hgo⟩
      rw [List.drop_of_length_le (by omega)] at hgo
      have e : tg = tgF := Option.some.inj hgo
      subst e
      refine ⟨_, rfl, T0, _, rfl, .inl ⟨SqL.of hT, fun t nt => ?_⟩⟩
      exact k t _ (hG.trans (Same.new nt)) (SqT.of upd_same)
end
end K15

set_option Elab.async false
set_option linter.all false
set_option maxRecDepth 100000
set_option maxHeartbeats 8000000
/-! Outlines, b: the class -/
namespace K15
open PySem L2
abbrev sOI : Stmt := inClass (top 25) 0
abbrev sStepAt : Stmt := inClass (top 25) 1
abbrev sTargetAt : Stmt := inClass (top 25) 2
abbrev sMany : Stmt := inClass (top 25) 3
theorem PSs.ghost {X : Cx} {st : List Stmt} : PSs X st (fun _ _ _ => False) := ⟨fun _ _ _ _ _ _ z => z.elim⟩
theorem PS.ghost {X : Cx} {st : Stmt} : PS X st (fun _ _ _ => False) := ⟨fun _ _ _ _ _ _ z => z.elim⟩
theorem kRS : ¬ (("rows" : Str) = "steps") := by decide +kernel
theorem kRT : ¬ (("rows" : Str) = "targets") := by decide +kernel
theorem kST : ¬ (("steps" : Str) = "targets") := by decide +kernel
/-- an outline's fields -/
def oFl (r s t : Addr) : List (Str × V) := putF "targets" (.ref t) (putF "steps" (.ref s) (putF "rows" (.ref r) []))
theorem oFl_r (r s t : Addr) : (oFl r s t).lookup ("rows" : Str) = some (.ref r) := by
  unfold oFl
  rw [lookup_putF, if_neg kRT, lookup_putF, if_neg kRS, lookup_putF, if_pos rfl]
theorem oFl_s (r s t : Addr) : (oFl r s t).lookup ("steps" : Str) = some (.ref s) := by
  unfold oFl
  rw [lookup_putF, if_neg kST, lookup_putF, if_pos rfl]
theorem oFl_t (r s t : Addr) : (oFl r s t).lookup ("targets" : Str) = some (.ref t) := by
  unfold oFl
  rw [lookup_putF, if_pos rfl]
theorem oFl_no (r s t : Addr) {m : Str} (h1 : ¬ m = "rows") (h2 : ¬ m = "steps") (h3 : ¬ m = "targets") : (oFl r s t).lookup m = none := by
  unfold oFl
  rw [lookup_putF, if_neg h3, lookup_putF, if_neg h2, lookup_putF, if_neg h1]
  all_goals rfl
structure TxtO (K : PySem.W.Frag) (mg : Str → Option Value) (C : Addr) : Prop where
  cl : Cls K C
  nR : NoAttr K C "rows"
  nS : NoAttr K C "steps"
  nT : NoAttr K C "targets"
  mgC : mg "Outline" = some (.ref C)
/-- an outline stands at p -/
structure OutAt (K : PySem.W.Frag) (C : Addr) (H : Hp) (p : Addr) (rows : List Str) (xs : List V) (sts : List St) (tg : List V) : Prop where
  ob : ∃ dx r s t, H p = some (.ins C dx (oFl r s t)) ∧ SqT K H r (rows.map V.str) ∧ SqT K H s xs ∧ SqT K H t tg
  st : StsAt K H xs sts
theorem StsAt.keep {K : PySem.W.Frag} {H H' : Hp} (t : Tk H H') : ∀ {xs : List V} {sts : List St}, StsAt K H xs sts → StsAt K H' xs sts
  | _, _, .nil => .nil
  | _, _, .cons h r => .cons ⟨h.1.keep t, h.2⟩ (StsAt.keep t r)
theorem OutAt.keep {K : PySem.W.Frag} {C : Addr} {H H' : Hp} {p : Addr} {rows : List Str} {xs : List V} {sts : List St} {tg : List V} (h : OutAt K C H p rows xs sts tg) (s : Same H H') : OutAt K C H' p rows xs sts tg := by
  obtain ⟨⟨dx, r, u, t, e, h1, h2, h3⟩, h4⟩ := h
  exact ⟨⟨dx, r, u, t, s _ _ e, seqT s h1, seqT s h2, seqT s h3⟩, h4.keep (Same.tk s)⟩
/-- all but what stands at p is kept -/
def But (p : Addr) (H H' : Hp) : Prop := ∀ b o, H b = some o → b ≠ p → H' b = some o
theorem But.same {p : Addr} {H H' : Hp} (s : Same H H') : But p H H' := fun b o e _ => s b o e
theorem But.trans {p : Addr} {A B C : Hp} (h : But p A B) (k : But p B C) : But p A C := fun b o e n => k b o (h b o e n) n
theorem But.upd {p : Addr} {H : Hp} {o : HO} : But p H (upd H p o) := fun b u e n => by
  rw [upd_ne n]
  exact e
theorem But.tk {p : Addr} {H H' : Hp} {u : HO} (b : But p H H') (hp : H p = some u) (h1 : ∀ xs, u ≠ .tup xs := by intro _ z; cases z) (h2 : ∀ ob y, u ≠ .frz ob y := by intro _ _ z; cases z) : Tk H H' := fun K a xs h => by
  rcases h with (h | ⟨ob, h⟩) | h
  · exact .inl (.inl (b _ _ h fun z => h1 _ (by rw [z] at h; exact Option.some.inj (hp.symm.trans h))))
  · exact .inl (.inr ⟨ob, b _ _ h fun z => h2 _ _ (by rw [z] at h; exact Option.some.inj (hp.symm.trans h))⟩)
  · exact .inr h
theorem But.seq {p : Addr} {H H' : Hp} {u : HO} {K : PySem.W.Frag} {a : Addr} {xs : List V} (b : But p H H') (hp : H p = some u) (h : SqL K H a xs) (h1 : ∀ ys, u ≠ .lst ys := by intro _ z; cases z) (h2 : ∀ ob y, u ≠ .frz ob y := by intro _ _ z; cases z) : SqL K H' a xs := by
  rcases h with (h | ⟨ob, h⟩) | h
  · exact .inl (.inl (b _ _ h fun z => h1 _ (by rw [z] at h; exact Option.some.inj (hp.symm.trans h))))
  · exact .inl (.inr ⟨ob, b _ _ h fun z => h2 _ _ (by rw [z] at h; exact Option.some.inj (hp.symm.trans h))⟩)
  · exact .inr h
def spOI (K : PySem.W.Frag) (C : Addr) : Sp := fun vs H Q _ => ∃ (p dx ar as : Addr) (rows : List Str) (xs : List V) (sts : List St) (tg : List V), vs = [.ref p, .ref ar, .ref as] ∧ H p = some (.ins C dx []) ∧ SqL K H ar (rows.map V.str) ∧ SqL K H as xs ∧ StsAt K H xs sts ∧ sts.length ≤ 1000 ∧ tgM sts = some tg ∧
  ∀ H', But p H H' → OutAt K C H' p rows xs sts tg → Q .non H'
def spStepAt (K : PySem.W.Frag) (C : Addr) : Sp := fun vs H Q _ => ∃ (p : Addr) (rows : List Str) (xs : List V) (sts : List St) (tg : List V) (i : Nat) (v : V), vs = [.ref p, .int ((i + 1 : Nat) : Int)] ∧ OutAt K C H p rows xs sts tg ∧ xs[i]? = some v ∧ Q v H
def spTargetAt (K : PySem.W.Frag) (C : Addr) : Sp := fun vs H Q _ => ∃ (p : Addr) (rows : List Str) (xs : List V) (sts : List St) (tg : List V) (i : Nat) (v : V), vs = [.ref p, .int ((i + 1 : Nat) : Int)] ∧ OutAt K C H p rows xs sts tg ∧ tg[i]? = some v ∧ Q v H
def spMany (K : PySem.W.Frag) (C : Addr) : Sp := fun vs H Q _ => ∃ (p : Addr) (rows : List Str) (xs : List V) (sts : List St) (tg : List V), vs = [.ref p] ∧ OutAt K C H p rows xs sts tg ∧ Q (.int (xs.length : Nat)) H
section
variable {P : Program} {w : World} {K : PySem.W.Frag} {mg : Str → Option Value} {base : Heap}
theorem scOI : FnScope ["self", "rows", "steps"] ["self", "rows", "steps"] (defScope sOI) := ⟨rfl, rfl, rfl, by decide +kernel, rfl, by decide +kernel, by decide +kernel⟩
theorem ok_oinit {f C fT : Addr} {fd fdT : FuncData} (F : Fun K "__init__" "Outline.__init__" sOI f fd) (T : TxtN mg) (O : TxtO K mg C)
    (GT : FnOk P w K mg base CX0 1 fT fdT ["steps"] (spTargets K)) (kT : PySem.W.keepIn K (.ref fT) = true) (bT : Binds K fdT ["steps"] []) (gT : mg "targets_of" = some (.ref fT)) : FnOk P w K mg base CX0 2 f fd ["self", "rows", "steps"] (spOI K C) := by
  refine F.ok scOI (fun vs H Q E h => ?_) (fun cdv A outer s H vs Q E hr h => ?_)
  · obtain ⟨p, dx, ar, as, rows, xs, sts, tg, rfl, _⟩ := h
    rfl
  · obtain ⟨p, dx, ar, as, rows, xs, sts, tg, rfl, hp, har, has, hst, hlen, htg, k⟩ := h
    refine ⟨_, pss_cons (ps_fld (pv 0) (pe_callTy call_tuple_of (by rfl) T.tuple (by decide +kernel) (pa_cons (pv 1) pa_nil)) rfl)
      (pss_cons (ps_fld (pv 0) (pe_callTy call_tuple_of (by rfl) T.tuple (by decide +kernel) (pa_cons (pv 2) pa_nil)) rfl)
      (pss_one (ps_fld (pv 0) (pe_call GT hr rfl gT kT bT .nil pass0 (pa_cons (pv 2) pa_nil)) rfl))), ?_⟩
    refine ⟨_, rfl, ar, _, rfl, .inl ⟨har, fun t1 n1 => ?_⟩⟩
    have s1 := Same.new (o := .tup (rows.map V.str)) n1
    have b1 : But p H _ := But.trans (But.same s1) (But.upd (p := p) (o := .ins C dx (putF "rows" (.ref t1) [])))
    have p1 : t1 ≠ p := (ne_of_none hp n1).symm
    refine ⟨_, rfl, p, C, dx, [], rfl, s1 _ _ hp, O.cl, O.nR, (by show 0 < 1000; decide), ?_⟩
    refine ⟨_, rfl, as, _, rfl, .inl ⟨b1.seq hp has, fun t2 n2 => ?_⟩⟩
    have s2 := Same.new (o := .tup xs) n2
    have p2 : t2 ≠ p := (ne_of_none upd_same n2).symm
    refine ⟨_, rfl, p, C, dx, _, rfl, s2 _ _ upd_same, O.cl, O.nS, (by show 1 < 1000; decide), ?_⟩
    have b2 : But p H _ := But.trans (But.trans b1 (But.same s2)) (But.upd (p := p) (o := .ins C dx (putF "steps" (.ref t2) (putF "rows" (.ref t1) []))))
    refine ⟨_, rfl, as, xs, sts, tg, rfl, b2.seq hp has, hst.keep (b2.tk hp), hlen, htg, fun t3 G s3 h3 => ?_⟩
    refine ⟨_, rfl, p, C, dx, _, rfl, s3 _ _ upd_same, O.cl, O.nT, (by show 2 < 1000; decide), ?_⟩
    have pG := s3 _ _ (upd_same (a := p))
    have b3 : But p H _ := But.trans (But.trans b2 (But.same s3)) (But.upd (p := p) (o := .ins C dx (oFl t1 t2 t3)))
    refine k _ b3 ⟨⟨dx, t1, t2, t3, upd_same, ?_, ?_, But.tk But.upd pG (by intro _ z; cases z) (by intro _ _ z; cases z) K _ _ h3⟩, hst.keep (b3.tk hp)⟩
    · refine SqT.of ?_
      rw [upd_ne p1]
      refine s3 _ _ ?_
      rw [upd_ne p1]
      refine s2 _ _ ?_
      rw [upd_ne p1]
      exact upd_same
    · refine SqT.of ?_
      rw [upd_ne p2]
      refine s3 _ _ ?_
      rw [upd_ne p2]
      exact upd_same
theorem scStepAt : FnScope ["self", "line"] ["self", "line"] (defScope sStepAt) := ⟨rfl, rfl, rfl, by decide +kernel, rfl, by decide +kernel, by decide +kernel⟩
theorem ok_stepat {f C : Addr} {fd : FuncData} (F : Fun K "step_at" "Outline.step_at" sStepAt f fd) (O : TxtO K mg C) : FnOk P w K mg base CX0 1 f fd ["self", "line"] (spStepAt K C) := by
  refine F.ok scStepAt (fun vs H Q E h => ?_) (fun cdv A outer s H vs Q E hr h => ?_)
  · obtain ⟨p, rows, xs, sts, tg, i, v, rfl, _⟩ := h
    rfl
  · obtain ⟨p, rows, xs, sts, tg, i, v, rfl, hO, hv, k⟩ := h
    obtain ⟨⟨dx, r, u, t, e, h1, h2, h3⟩, h4⟩ := hO
    refine ⟨_, pss_one (ps_ret (pe_ix ix_tup (pe_fld (pv 0) rfl) (pe_op op_sub (pv 1) pe_int) (fun _ _ => rfl))), ?_⟩
    refine ⟨_, rfl, p, C, dx, _, _, rfl, e, O.cl, O.nS, oFl_s _ _ _, _, rfl, _, _, rfl, rfl, u, _, _, _, rfl, rfl, h2, ?_, k⟩
    rw [show ((i + 1 : Nat) : Int) - 1 = (i : Int) by omega]
    exact atI_nat hv
theorem scTargetAt : FnScope ["self", "line"] ["self", "line"] (defScope sTargetAt) := ⟨rfl, rfl, rfl, by decide +kernel, rfl, by decide +kernel, by decide +kernel⟩
theorem ok_targetat {f C : Addr} {fd : FuncData} (F : Fun K "target_at" "Outline.target_at" sTargetAt f fd) (O : TxtO K mg C) : FnOk P w K mg base CX0 1 f fd ["self", "line"] (spTargetAt K C) := by
  refine F.ok scTargetAt (fun vs H Q E h => ?_) (fun cdv A outer s H vs Q E hr h => ?_)
  · obtain ⟨p, rows, xs, sts, tg, i, v, rfl, _⟩ := h
    rfl
  · obtain ⟨p, rows, xs, sts, tg, i, v, rfl, hO, hv, k⟩ := h
    obtain ⟨⟨dx, r, u, t, e, h1, h2, h3⟩, h4⟩ := hO
    refine ⟨_, pss_one (ps_ret (pe_ix ix_tup (pe_fld (pv 0) rfl) (pe_op op_sub (pv 1) pe_int) (fun _ _ => rfl))), ?_⟩
    refine ⟨_, rfl, p, C, dx, _, _, rfl, e, O.cl, O.nT, oFl_t _ _ _, _, rfl, _, _, rfl, rfl, t, _, _, _, rfl, rfl, h3, ?_, k⟩
    rw [show ((i + 1 : Nat) : Int) - 1 = (i : Int) by omega]
    exact atI_nat hv
theorem scMany : FnScope ["self"] ["self"] (defScope sMany) := ⟨rfl, rfl, rfl, by decide +kernel, rfl, by decide +kernel, by decide +kernel⟩
theorem ok_many {f C : Addr} {fd : FuncData} (F : Fun K "many_lines" "Outline.many_lines" sMany f fd) (T : TxtN mg) (O : TxtO K mg C) : FnOk P w K mg base CX0 1 f fd ["self"] (spMany K C) := by
  refine F.ok scMany (fun vs H Q E h => ?_) (fun cdv A outer s H vs Q E hr h => ?_)
  · obtain ⟨p, rows, xs, sts, tg, rfl, _⟩ := h
    rfl
  · obtain ⟨p, rows, xs, sts, tg, rfl, hO, k⟩ := h
    obtain ⟨⟨dx, r, u, t, e, h1, h2, h3⟩, h4⟩ := hO
    refine ⟨_, pss_one (ps_ret (pe_callB call_len_seq (by rfl) T.len PySem.boot_len (pa_cons (pe_fld (pv 0) rfl) pa_nil))), ?_⟩
    exact ⟨_, rfl, p, C, dx, _, _, rfl, e, O.cl, O.nS, oFl_s _ _ _, u, _, rfl, .inr h2, k⟩
end
end K15

set_option Elab.async false
set_option linter.all false
set_option maxRecDepth 100000
set_option maxHeartbeats 8000000
/-! Outlines, c: a line read -/
namespace K15
open PySem L2
/-- a line's tuple as a thing that it does -/
def ofD : PyData → Option St
  | .tuple (.str so :: .str n :: ds) => some (.set so n ds ())
  | .tuple [.str s] => some (.fin s)
  | _ => none
def stepS (kd : Str) (ws : List Str) : Option St := (stepM kd ws).bind ofD
def Act (d : PyData) : Prop := d = .tuple [.str "quit"] ∨ d = .tuple [.str "no"] ∨ ∃ (so n : Str) (ds : List PyData), d = .tuple (.str so :: .str n :: ds) ∧ so ∈ actsL
theorem act_of {d : PyData} (h : Act d) : ∃ st, ofD d = some st ∧ st.d = d ∧ st.Ok := by
  rcases h with rfl | rfl | ⟨so, n, ds, rfl, h⟩
  · exact ⟨.fin "quit", rfl, rfl, .inl rfl⟩
  · exact ⟨.fin "no", rfl, rfl, .inr rfl⟩
  · exact ⟨.set so n ds (), rfl, rfl, h⟩
theorem reg_act {ws : List Str} {d : PyData} (h : regM ws = some d) : Act d := by
  unfold regM at h
  split at h
  · cases h; exact .inr (.inr ⟨_, _, _, rfl, by decide +kernel⟩)
  split at h
  · cases h; exact .inr (.inr ⟨_, _, _, rfl, by decide +kernel⟩)
  · obtain ⟨acc, _, rfl⟩ := Option.map_eq_some_iff.mp h
    exact .inr (.inr ⟨_, _, _, rfl, by decide +kernel⟩)
theorem place_act {ws : List Str} {d : PyData} (h : placeM ws = some d) : Act d := by
  unfold placeM at h
  split at h
  · cases h; exact .inr (.inr ⟨_, _, _, rfl, by decide +kernel⟩)
  split at h
  · cases h
  split at h
  · cases h; exact .inr (.inr ⟨_, _, _, rfl, by decide +kernel⟩)
  split at h
  · cases h
  · obtain ⟨acc, _, rfl⟩ := Option.map_eq_some_iff.mp h
    exact .inr (.inr ⟨_, _, _, rfl, by decide +kernel⟩)
theorem head_act {w : Str} {a : Option Acc} {u v : Option Bool} {d : PyData} (h : headM w a u v = some d) : Act d := by
  unfold headM at h
  split at h
  · cases h; exact .inr (.inr ⟨_, _, _, rfl, by decide +kernel⟩)
  · cases h
theorem sized_act {ws : List Str} {d : PyData} (h : sizedM ws = some d) : Act d := by
  unfold sizedM at h
  split at h
  · cases h
  split at h
  · exact head_act h
  · obtain ⟨acc, _, rfl⟩ := Option.map_eq_some_iff.mp h
    refine .inr (.inr ⟨_, _, _, rfl, ?_⟩)
    split <;> decide +kernel
theorem flag_act {ws : List Str} {d : PyData} (h : flagStepM ws = some d) : Act d := by
  unfold flagStepM at h
  dsimp only at h
  split at h
  all_goals
    split at h
    · obtain ⟨u, _, rfl⟩ := Option.map_eq_some_iff.mp h
      exact .inr (.inr ⟨_, _, _, rfl, by decide +kernel⟩)
    · cases h
theorem tie_act {ws : List Str} {d : PyData} (h : tieM ws = some d) : Act d := by
  unfold tieM at h
  split at h
  · cases h; exact .inr (.inr ⟨_, _, _, rfl, by decide +kernel⟩)
  · cases h
theorem step_act {kd : Str} {ws : List Str} {d : PyData} (h : stepM kd ws = some d) : Act d := by
  unfold stepM at h
  split at h
  · rename_i hq
    cases h
    rcases hq with rfl | rfl
    · exact .inl rfl
    · exact .inr (.inl rfl)
  split at h
  · split at h
    · exact reg_act h
    split at h
    · exact place_act h
    · cases h
  split at h
  · exact sized_act h
  split at h
  · exact flag_act h
  split at h
  · exact tie_act h
  · cases h
theorem step_d (kd : Str) (ws : List Str) : stepM kd ws = (stepS kd ws).map St.d := by
  unfold stepS
  cases e : stepM kd ws with
  | none => rfl
  | some d =>
    obtain ⟨st, h1, h2, _⟩ := act_of (step_act e)
    show some d = (ofD d).map St.d
    rw [h1]
    exact congrArg some h2.symm
theorem step_ok {kd : Str} {ws : List Str} {st : St} (h : stepS kd ws = some st) : st.Ok := by
  unfold stepS at h
  cases e : stepM kd ws with
  | none => rw [e] at h; cases h
  | some d =>
    rw [e] at h
    obtain ⟨st', h1, _, h3⟩ := act_of (step_act e)
    have h' : ofD d = some st := h
    rw [h1] at h'
    cases h'
    exact h3
theorem part_head {kd : Str} {ws : List Str} {d : PyData} (h : hPartM kd ws = some d) : ∃ (s : Str) (r : List PyData), d = .tuple (.str s :: r) := by
  unfold hPartM at h
  split at h
  · cases h; exact ⟨_, _, rfl⟩
  split at h
  · cases h; exact ⟨_, _, rfl⟩
  split at h
  · cases h; exact ⟨_, _, rfl⟩
  · unfold compM at h
    split at h
    · split at h
      · split at h
        · cases h; exact ⟨_, _, rfl⟩
        · cases h
      · cases h
    · cases h
def shapeD (p : Bool × Str × List PyData) : PyData := .tuple [.bool p.1, .tuple (.str p.2.1 :: p.2.2)]
theorem parts_shape {kd : Str} : ∀ {l : List (List Str)} {acc out : List PyData} {qs : List (Bool × Str × List PyData)}, acc = qs.map shapeD → partsGo (hPartM kd) l acc = some out → ∃ ps : List (Bool × Str × List PyData), out = ps.map shapeD ∧ ps.length = qs.length + l.length
  | [], acc, out, qs, ha, h => by
    have h' : some acc = some out := h
    cases h'
    exact ⟨qs, ha, by simp⟩
  | p :: r, acc, out, qs, ha, h => by
    have h' : (match partD (hPartM kd) p with
      | none => none
      | some d => partsGo (hPartM kd) r (acc ++ [d])) = some out := h
    cases e : partD (hPartM kd) p with
    | none => rw [e] at h'; cases h'
    | some d =>
      rw [e] at h'
      unfold partD at e
      obtain ⟨d0, e0, rfl⟩ := Option.map_eq_some_iff.mp e
      obtain ⟨s, rr, rfl⟩ := part_head e0
      obtain ⟨ps, h1, h2⟩ := parts_shape (qs := qs ++ [(decide (p.take 1 ≠ [("not" : Str)]), s, rr)]) (by rw [List.map_append, ha]; rfl) h'
      exact ⟨ps, h1, by rw [h2, List.length_append, List.length_cons]; simp; omega⟩
theorem test_ok {kd : Str} {ws : List Str} {t : PyData} (h : testM (hPartM kd) ws = some t) : (St.iff t).Ok := by
  unfold testM at h
  split at h
  · cases h
  · rename_i hl
    obtain ⟨out, h1, rfl⟩ := Option.map_eq_some_iff.mp h
    obtain ⟨ps, h2, h3⟩ := parts_shape (qs := []) rfl h1
    exact ⟨ps, by rw [h2]; rfl, by rw [h3]; simp; omega⟩
/-- a line read: what it does, the open blocks behind it -/
def readS (kd : Str) (ws nest : List Str) : Option (St × List Str) := if ws.getD 0 Str.empty = "if" then (testM (hPartM kd) (ws.drop 1)).map fun t => (.iff t, nest ++ [("if" : Str)])
  else if ws = [("else" : Str)] then (if nest = [] ∨ nest.getLast? = some ("else" : Str) then none else some (.els, nest.dropLast ++ [("else" : Str)]))
  else if ws = [("end" : Str)] then (if nest = [] then none else some (.nd, nest.dropLast))
  else (stepS kd ws).map fun st => (st, nest)
theorem read_ok {kd : Str} {ws nest n2 : List Str} {st : St} (h : readS kd ws nest = some (st, n2)) : st.Ok := by
  unfold readS at h
  split at h
  · cases e : testM (hPartM kd) (ws.drop 1) with
    | none => rw [e] at h; cases h
    | some t => rw [e] at h; cases h; exact test_ok e
  split at h
  · split at h
    · cases h
    · cases h; trivial
  split at h
  · split at h
    · cases h
    · cases h; trivial
  · cases e : stepS kd ws with
    | none => rw [e] at h; cases h
    | some s => rw [e] at h; cases h; exact step_ok e
/-- no open while -/
def NoWh (nest : List Str) : Prop := ∀ x ∈ nest, ¬ x = ("while" : Str)
theorem NoWh.nil : NoWh [] := fun _ z => by cases z
theorem read_noWh {kd : Str} {ws nest n2 : List Str} {st : St} (h : readS kd ws nest = some (st, n2)) (hn : NoWh nest) : NoWh n2 := by
  have dl : ∀ x ∈ nest.dropLast, ¬ x = ("while" : Str) := fun x hx => hn x (List.dropLast_subset _ hx)
  unfold readS at h
  split at h
  · cases e : testM (hPartM kd) (ws.drop 1) with
    | none => rw [e] at h; cases h
    | some t =>
      rw [e] at h
      cases h
      intro x hx
      rcases List.mem_append.mp hx with hx | hx
      · exact hn x hx
      · rw [List.mem_singleton.mp hx]; decide +kernel
  split at h
  · split at h
    · cases h
    · cases h
      intro x hx
      rcases List.mem_append.mp hx with hx | hx
      · exact dl x hx
      · rw [List.mem_singleton.mp hx]; decide +kernel
  split at h
  · split at h
    · cases h
    · cases h
      exact dl
  · cases e : stepS kd ws with
    | none => rw [e] at h; cases h
    | some s => rw [e] at h; cases h; exact hn
def ReadV (K : PySem.W.Frag) (H : Hp) (v : V) (nest' : List Str) : Option (St × List Str) → Prop
  | none => v = .non
  | some (st, n2) => nest' = n2 ∧ v ≠ .non ∧ TDp K H v st.d
def spRead (K : PySem.W.Frag) (fS fP : Addr) : Sp := fun vs H Q _ => ∃ (a N : Addr) (ws nest : List Str) (kd : Str), vs = [.ref a, .str kd, .ref fS, .ref fP, .non, .ref N] ∧ NoWh nest ∧ kd ∈ kindsL ∧ SqL K H a (ws.map V.str) ∧ WsOk ws ∧ ws ≠ [] ∧ ws.length ≤ 1000 ∧
  H N = some (.lst (nest.map V.str)) ∧ nest.length ≤ 1000 ∧ ∀ (v : V) (H' : Hp) (nest' : List Str), But N H H' → H' N = some (.lst (nest'.map V.str)) → ReadV K H' v nest' (readS kd ws nest) → Q v H'
theorem nest_lastV {nest : List Str} {l : Str} (e : nest.getLast? = some l) : (nest.map V.str)[(nest.map V.str).length - 1]? = some (.str l) := by
  rw [List.length_map, List.getElem?_map, ← List.getLast?_eq_getElem?, e]
  rfl
theorem and_nest {K : PySem.W.Frag} {N : Addr} {nest : List Str} {tB : TT} {σ : L2.St} {H : Hp} {Q : Bool → Hp → Prop} (h5 : σ[5]? = some (some (.ref N))) (hN : H N = some (.lst (nest.map V.str))) (hnw : NoWh nest) (q : Q false H) :
    tAnd (fun σ H Q => tVar 5 σ H fun x H' => ∃ k, TruV K x H' k ∧ Q k H') (tAnd (tTest (tOp rEq (tOp (rIxL K) (tVar 5) (tUn (rU fun i => V.int (-i)) (tC (V.int 1)))) (tC (V.str "while")))) tB) σ H Q := by
  refine ⟨_, h5, ?_⟩
  by_cases hne : nest = []
  · refine ⟨false, .inl ⟨_, SqL.of hN, by rw [hne]; rfl⟩, ?_⟩
    exact iteF q
  · refine ⟨true, .inl ⟨_, SqL.of hN, by
      cases nest with
      | nil => exact absurd rfl hne
      | cons x r => rfl⟩, ?_⟩
    refine iteT ?_
    cases el : nest.getLast? with
    | none => exact absurd (List.getLast?_eq_none_iff.mp el) hne
    | some l =>
    have hpos : 1 ≤ nest.length := List.length_pos_iff.mpr hne
    have hat : atI (nest.map V.str) (-1) = some (.str (nest.getD (nest.length - 1) Str.empty)) := at_neg (ws := nest) (i := 1) (by decide) hpos
    have hl : nest.getD (nest.length - 1) Str.empty ∈ nest := by
      rw [List.getD_eq_getElem?_getD, List.getElem?_eq_getElem (by omega)]
      exact List.getElem_mem _
    refine ⟨_, h5, _, rfl, N, _, -1, _, rfl, rfl, SqL.of hN, hat, rfl, _, rfl, ?_⟩
    exact ifF3 (decide_eq_false fun z => hnw _ hl (V.str.inj z)) q
theorem and_while {K : PySem.W.Frag} {a : Addr} {ws : List Str} {σ : L2.St} {H : Hp} {Q : Bool → Hp → Prop} (h0 : σ[0]? = some (some (.ref a))) (h4 : σ[4]? = some (some .non)) (ha : SqL K H a (ws.map V.str)) (hne : ws ≠ []) (q : Q false H) :
    tAnd (tTest (tOp rEq (tOp (rIxL K) (tVar 0) (tC (V.int 0))) (tC (V.str "while")))) (tTest (tOp (fun x y H Q => y = V.non ∧ Q (V.bl !decide (x = V.non)) H) (tVar 4) (tC V.non))) σ H Q := by
  have at0 := at_pos (ws := ws) (i := 0) (List.length_pos_iff.mpr hne)
  refine ⟨_, h0, a, _, 0, _, rfl, rfl, ha, at0, rfl, _, rfl, ?_⟩
  refine ite2 (fun _ => ?_) (fun _ => ?_)
  · exact ⟨_, h4, rfl, _, rfl, q⟩
  · exact q
section
variable {P : Program} {w : World} {K : PySem.W.Frag} {mg : Str → Option Value} {base : Heap}
theorem scRead : FnScope ["words", "kind", "step_in", "part_in", "loop_in", "nest", "test"] ["words", "kind", "step_in", "part_in", "loop_in", "nest"] (defScope sRead) := ⟨rfl, rfl, rfl, by decide +kernel, rfl, by decide +kernel, by decide +kernel⟩
theorem ok_read {f fT fS fP : Addr} {fd fdT fdS : FuncData} (F : Fun K "read_line" "read_line" sRead f fd)
    (GT : FnOk P w K mg base CX0 5 fT fdT ["words", "part_in", "kind"] (spTestIn K fP kindsL hPartM)) (kT : PySem.W.keepIn K (.ref fT) = true) (bT : Binds K fdT ["words", "part_in", "kind"] []) (gT : mg "test_in" = some (.ref fT))
    (GS : FnOk P w K mg base CX0 5 fS fdS ["words", "kind"] (spStepIn K kindsL stepM)) (kS : PySem.W.keepIn K (.ref fS) = true) (bS : Binds K fdS ["words", "kind"] []) : FnOk P w K mg base CX0 6 f fd ["words", "kind", "step_in", "part_in", "loop_in", "nest"] (spRead K fS fP) := by
  refine F.ok scRead (fun vs H Q E h => ?_) (fun cdv A outer s H vs Q E hr h => ?_)
  · obtain ⟨a, N, ws, nest, kd, rfl, _⟩ := h
    rfl
  · obtain ⟨a, N, ws, nest, kd, rfl, hnw, hkd, ha, hok, hne, hlen, hN, hnl, k⟩ := h
    have hr4 : Room 4 _ := hr.mono (by decide)
    refine ⟨_, pss_cons (ps_if (PW.pt (pw_and (pt_truth (pv 5) (by intro _; rfl)) (pw_and (pt_cmpR op_eq (pe_ix ix_list (pv 5) (pe_un un_neg pe_int) (fun _ _ => rfl)) pe_str (nomark _)) (pw_and1 (pt_cmpR (op_neD hr.units) (pv 0) (pe_lst (pa_cons pe_str pa_nil)) (nomark _)))))) (pss_one PS.ghost) pss_nil)
      (pss_cons (ps_if (PW.pt (pw_and (pt_cmpR op_eq (pe_ix ix_list (pv 0) pe_int (fun _ _ => rfl)) pe_str (nomark _)) (pw_and1 (pt_cmpR op_notN (pv 4) pe_non (nomark _))))) (pss_one PS.ghost) pss_nil)
      (pss_cons (ps_if (pt_cmpR op_eq (pe_ix ix_list (pv 0) pe_int (fun _ _ => rfl)) pe_str (nomark _))
        (pss_cons (ps_set (i := 6) scRead.nd rfl (.inl rfl) (pe_call GT hr rfl gT kT bT .nil pass0 (pa_cons (pe_slice sl_list (pv 0) (po_some pe_int) po_none) (pa_cons (pv 3) (pa_cons (pv 1) pa_nil)))))
        (pss_cons (ps_if (pt_cmpR op_isN (pv 6) pe_non (nomark _)) (pss_one (ps_ret pe_non)) pss_nil)
        (pss_cons (ps_expr (pe_bm PySem.F.plainAttrs_list PySem.F.slot_list_append PySem.F.type_list_append mt_append (pv 5) (pa_cons pe_str pa_nil)))
        (pss_one (ps_ret (pe_tup (pa_cons pe_str (pa_cons (pv 6) pa_nil)))))))) pss_nil)
      (pss_cons (ps_if (pt_cmpR (op_eqD hr.units) (pv 0) (pe_lst (pa_cons pe_str pa_nil)) (nomark _))
        (pss_cons (ps_if (PW.pt (pw_or (pt_not (pt_truth (pv 5) (by intro _; rfl))) (pw_or1 (pt_cmpR op_eq (pe_bm0 PySem.F.plainAttrs_list PySem.F.slot_list_pop PySem.F.type_list_pop mt_pop (pv 5)) pe_str (nomark _))))) (pss_one (ps_ret pe_non)) pss_nil)
        (pss_cons (ps_expr (pe_bm PySem.F.plainAttrs_list PySem.F.slot_list_append PySem.F.type_list_append mt_append (pv 5) (pa_cons pe_str pa_nil)))
        (pss_one (ps_ret (pe_tup (pa_cons pe_str pa_nil)))))) pss_nil)
      (pss_cons (ps_if (pt_cmpR (op_eqD hr.units) (pv 0) (pe_lst (pa_cons pe_str pa_nil)) (nomark _))
        (pss_cons (ps_if (pt_not (pt_truth (pv 5) (by intro _; rfl))) (pss_one (ps_ret pe_non)) pss_nil)
        (pss_cons (ps_expr (pe_bm0 PySem.F.plainAttrs_list PySem.F.slot_list_pop PySem.F.type_list_pop mt_pop (pv 5)))
        (pss_one (ps_ret (pe_tup (pa_cons pe_str pa_nil)))))) pss_nil)
      (pss_one (ps_ret (pe_callL (i := 2) GS hr rfl (Or.inl rfl) kS bS .nil pass0 (pa_cons (pv 0) (pa_cons (pv 1) pa_nil))))))))), ?_⟩
    have at0 := at_pos (ws := ws) (i := 0) (List.length_pos_iff.mpr hne)
    refine and_nest (N := N) (nest := nest) rfl hN hnw (iteF ?_)
    refine and_while (a := a) (ws := ws) rfl rfl ha hne (iteF ?_)
    refine ⟨_, rfl, a, _, 0, _, rfl, rfl, ha, at0, rfl, _, rfl, ?_⟩
    by_cases h1 : ws.getD 0 Str.empty = "if"
    · have hM : readS kd ws nest = (testM (hPartM kd) (ws.drop 1)).map fun t => (.iff t, nest ++ [("if" : Str)]) := if_pos h1
      refine ifT3 (decide_eq_true (congrArg V.str h1)) ?_
      have cl : cutV (ws.map V.str) (some 1) none = (ws.drop 1).map V.str := cut_lo ws 1
      refine ⟨_, rfl, _, rfl, a, _, rfl, ha, fun q nq => ?_⟩
      rw [cl]
      have sq := Same.new (o := .lst ((ws.drop 1).map V.str)) nq
      refine ⟨_, rfl, _, rfl, q, ws.drop 1, kd, rfl, hkd, SqL.of upd_same, (fun w hw => hok w (List.mem_of_mem_drop hw)), by rw [List.length_drop]; omega, fun v G s2 res => ?_⟩
      have sG := sq.trans s2
      refine ⟨_, rfl, rfl, _, rfl, ?_⟩
      cases o : testM (hPartM kd) (ws.drop 1) with
      | none =>
        rw [o] at res hM
        have rv : v = .non := res
        subst rv
        refine iteT ?_
        exact k _ _ nest (But.same sG) (sG _ _ hN) (by rw [hM]; rfl)
      | some t =>
        rw [o] at res hM
        refine ifF3 (decide_eq_false res.1) ?_
        have GN := sG _ _ hN
        refine ⟨_, rfl, .inl ⟨rfl, _, SqL.of GN⟩, N, _, _, rfl, rfl, GN, small1000 (by rw [List.length_map]; omega), ?_⟩
        refine ⟨_, rfl, (by show 2 ≤ sizeLine; decide), fun p np => ?_⟩
        have bw : But N H _ := But.trans (But.same sG) (But.trans (But.upd (p := N) (o := .lst (nest.map V.str ++ [V.str "if"]))) (But.same (Same.new (o := .tup [.str "if", v]) np)))
        refine k _ _ (nest ++ [("if" : Str)]) bw ?_ ?_
        · rw [List.map_append]
          exact Same.new np _ _ upd_same
        · rw [hM]
          exact ⟨rfl, (by intro z; cases z), .tup (SqT.of upd_same) (.cons (.str _) (.cons ((res.2.keep (Tk.write GN)).keep (Same.tk (Same.new np))) .nil))⟩
    refine ifF3 (decide_eq_false fun z => h1 (V.str.inj z)) ?_
    have dW : ∀ G, Same H G → Dp K G (.ref a) (.list (ws.map PyData.str)) := fun G hG => .lst (hG.seq ha) (dpWs _)
    have lW := shapedWs hok
    have lastS : ∀ l, nest.getLast? = some l → (nest.map V.str)[(nest.map V.str).length - 1]? = some (.str l) := fun l e => by
      rw [List.length_map, List.getElem?_map, ← List.getLast?_eq_getElem?, e]
      rfl
    have nemp : ¬ nest = [] → true = !(nest.map V.str).isEmpty := fun z => by
      cases nest with
      | nil => exact absurd rfl z
      | cons x r => rfl
    refine ⟨_, rfl, (by show 1 ≤ sizeLine; decide), fun q nq => ?_⟩
    have sq := Same.new (o := .lst [.str "else"]) nq
    refine ⟨_, .list ([("else" : Str)].map PyData.str), dW _ sq, .lst (SqL.of (xs := [("else" : Str)].map V.str) upd_same) (dpWs _), lW, by decide +kernel, ?_⟩
    rw [eqvL]
    refine ⟨_, rfl, ?_⟩
    by_cases h2 : ws = [("else" : Str)]
    · have hM : readS kd ws nest = if nest = [] ∨ nest.getLast? = some ("else" : Str) then none else some (.els, nest.dropLast ++ [("else" : Str)]) := by
        unfold readS
        rw [if_neg h1, if_pos h2]
      refine ifT3 (decide_eq_true h2) ?_
      have GN := sq _ _ hN
      by_cases hne2 : nest = []
      · refine ⟨_, rfl, false, .inl ⟨_, SqL.of GN, by rw [hne2]; rfl⟩, ?_⟩
        refine iteT ?_
        exact k _ _ nest (But.same sq) GN (by rw [hM, if_pos (.inl hne2)]; rfl)
      refine ⟨_, rfl, true, .inl ⟨_, SqL.of GN, nemp hne2⟩, ?_⟩
      refine iteF ?_
      cases el : nest.getLast? with
      | none => exact absurd (List.getLast?_eq_none_iff.mp el) hne2
      | some l =>
      refine ⟨_, rfl, .inl ⟨rfl, _, SqL.of GN⟩, N, _, _, rfl, rfl, GN, lastS l el, rfl, _, rfl, ?_⟩
      have b1 : But N H _ := But.trans (But.same sq) (But.upd (p := N) (o := .lst (nest.map V.str).dropLast))
      have G2 : (upd (upd H q (.lst [.str "else"])) N (.lst (nest.map V.str).dropLast)) N = some (.lst (nest.dropLast.map V.str)) := by
        rw [upd_same, List.map_dropLast]
      by_cases hl : l = "else"
      · refine ifT3 (decide_eq_true (congrArg V.str hl)) ?_
        exact k _ _ nest.dropLast b1 G2 (by rw [hM, if_pos (.inr (by rw [el, hl]))]; rfl)
      refine ifF3 (decide_eq_false fun z => hl (V.str.inj z)) ?_
      refine ⟨_, rfl, .inl ⟨rfl, _, SqL.of G2⟩, N, _, _, rfl, rfl, G2, small1000 (by rw [List.length_map, List.length_dropLast]; omega), ?_⟩
      refine ⟨(by show 1 ≤ sizeLine; decide), fun p np => ?_⟩
      have bw : But N H _ := But.trans b1 (But.trans (But.upd (p := N) (o := .lst (nest.dropLast.map V.str ++ [V.str "else"]))) (But.same (Same.new (o := .tup [.str "else"]) np)))
      refine k _ _ (nest.dropLast ++ [("else" : Str)]) bw ?_ ?_
      · rw [List.map_append]
        exact Same.new np _ _ upd_same
      · rw [hM, if_neg (fun z => by
          rcases z with z | z
          · exact hne2 z
          · rw [el] at z; exact hl (Option.some.inj z))]
        exact ⟨rfl, (by intro z; cases z), .tup (SqT.of upd_same) (.cons (.str _) .nil)⟩
    refine ifF3 (decide_eq_false h2) ?_
    refine ⟨_, rfl, (by show 1 ≤ sizeLine; decide), fun q2 nq2 => ?_⟩
    have sq2 := sq.trans (Same.new (o := .lst [.str "end"]) nq2)
    refine ⟨_, .list ([("end" : Str)].map PyData.str), dW _ sq2, .lst (SqL.of (xs := [("end" : Str)].map V.str) upd_same) (dpWs _), lW, by decide +kernel, ?_⟩
    rw [eqvL]
    refine ⟨_, rfl, ?_⟩
    by_cases h3 : ws = [("end" : Str)]
    · have hM : readS kd ws nest = if nest = [] then none else some (.nd, nest.dropLast) := by
        unfold readS
        rw [if_neg h1, if_neg h2, if_pos h3]
      refine ifT3 (decide_eq_true h3) ?_
      have GN := sq2 _ _ hN
      by_cases hne2 : nest = []
      · refine ⟨_, rfl, false, .inl ⟨_, SqL.of GN, by rw [hne2]; rfl⟩, ?_⟩
        refine iteT ?_
        exact k _ _ nest (But.same sq2) GN (by rw [hM, if_pos hne2]; rfl)
      refine ⟨_, rfl, true, .inl ⟨_, SqL.of GN, nemp hne2⟩, ?_⟩
      refine iteF ?_
      cases el : nest.getLast? with
      | none => exact absurd (List.getLast?_eq_none_iff.mp el) hne2
      | some l =>
      refine ⟨_, rfl, .inl ⟨rfl, _, SqL.of GN⟩, N, _, _, rfl, rfl, GN, lastS l el, ?_⟩
      refine ⟨(by show 1 ≤ sizeLine; decide), fun p np => ?_⟩
      have bw : But N H _ := But.trans (But.same sq2) (But.trans (But.upd (p := N) (o := .lst (nest.map V.str).dropLast)) (But.same (Same.new (o := .tup [.str "end"]) np)))
      refine k _ _ nest.dropLast bw ?_ ?_
      · rw [List.map_dropLast]
        exact Same.new np _ _ upd_same
      · rw [hM, if_neg hne2]
        exact ⟨rfl, (by intro z; cases z), .tup (SqT.of upd_same) (.cons (.str _) .nil)⟩
    refine ifF3 (decide_eq_false h3) ?_
    have hM : readS kd ws nest = (stepS kd ws).map fun st => (st, nest) := by
      unfold readS
      rw [if_neg h1, if_neg h2, if_neg h3]
    refine ⟨rfl, _, rfl, _, rfl, a, ws, kd, rfl, hkd, sq2.seq ha, hok, hne, hlen, fun v G s3 res => ?_⟩
    rw [step_d] at res
    refine k _ _ nest (But.same (sq2.trans s3)) ((sq2.trans s3) _ _ hN) ?_
    rw [hM]
    cases o : stepS kd ws with
    | none => rw [o] at res; exact res
    | some st => rw [o] at res; exact ⟨rfl, res.1, res.2⟩
end
end K15

set_option Elab.async false
set_option linter.all false
set_option maxRecDepth 100000
set_option maxHeartbeats 8000000
/-! Outlines, d: a text read -/
namespace L2
open PySem PyProof.Rows
/-- a def with defaults that lets nothing out -/
theorem FunD.ok0 {P : Program} {w : World} {K : PySem.W.Frag} {mg : Str → Option Value} {base : Heap} {x qual : Str} {params : Arguments} {body : List Stmt} {scope : Scope} {dvs : List V} {kws : List (Str × V)} {f : Addr} {fd : FuncData} {N ps : List Str} {k : Nat} {sp : Sp}
    (F : FunD K x qual params body scope dvs kws f fd) (S : FnScope N ps scope) (len : ∀ vs H Q E, sp vs H Q E → vs.length = ps.length)
    (hbody : ∀ (cdv : Value) (A : Around) (outer : List Env) (s : Shared) (H : Hp) (vs : List V) (Q : VK) (E : XK), Room k (A.deeper (envOfC qual scope s.heap.objs.size f cdv)) → sp vs H Q E →
      ∃ t, PSs (cxOf CX0 P w K mg base N qual scope f cdv A outer s H E).nox body t ∧ t { nx := fun _ H' => Q .non H', rt := Q } (start N vs) H) : FnOk P w K mg base CX0 (k + 1) f fd ps sp :=
  F.ok S len fun cdv A outer s H vs Q E hr h => by
    obtain ⟨t, p, q⟩ := hbody cdv A outer s H vs Q E hr h
    exact ⟨t, p.nox, q⟩
end L2
namespace K15
open PySem L2
def readGo (kd : Str) : List Str → List St → List Str → Option (List St × List Str)
  | [], acc, nest => some (acc, nest)
  | r :: rs, acc, nest => match readS kd (Txt.split r " ") nest with
    | none => none
    | some (st, n2) => readGo kd rs (acc ++ [st]) n2
def isIf : St → Bool
  | .iff _ => true
  | _ => false
def RowOk (r : Str) : Prop := r.length + 2 ≤ sizeLine ∧ WsOk (Txt.split r " ") ∧ Txt.split r " " ≠ [] ∧ (Txt.split r " ").length ≤ 1000
def spOutl (K : PySem.W.Frag) (C fS fP : Addr) : Sp := fun vs H Q _ => ∃ (x kd : Str) (ml mi : Int) (rows : List Str) (sts : List St) (tg : List V), vs = [.str x, .str kd, .ref fS, .ref fP, .int ml, .int mi, .non] ∧ kd ∈ kindsL ∧ x.length + 2 ≤ sizeLine ∧ linesM x = rows ∧
  (rows.length : Int) ≤ ml ∧ rows.length ≤ 1000 ∧ (∀ r ∈ rows, RowOk r) ∧ readGo kd rows [] [] = some (sts, []) ∧ ((sts.countP isIf : Nat) : Int) ≤ mi ∧ tgM sts = some tg ∧
  ∀ (p : Addr) (xs : List V) (H' : Hp), Same H H' → OutAt K C H' p rows xs sts tg → Q (.ref p) H'
theorem readS_len {kd : Str} {ws nest n2 : List Str} {st : St} (h : readS kd ws nest = some (st, n2)) : n2.length ≤ nest.length + 1 := by
  unfold readS at h
  split at h
  · cases e : testM (hPartM kd) (ws.drop 1) with
    | none => rw [e] at h; cases h
    | some t => rw [e] at h; cases h; rw [List.length_append]; exact Nat.le_refl _
  split at h
  · split at h
    · cases h
    · cases h; rw [List.length_append, List.length_dropLast]; show nest.length - 1 + 1 ≤ _; omega
  split at h
  · split at h
    · cases h
    · cases h; rw [List.length_dropLast]; omega
  · cases e : stepS kd ws with
    | none => rw [e] at h; cases h
    | some s => rw [e] at h; cases h; omega
theorem But.fresh {p : Addr} {H G G' : Hp} (s : Same H G) (b : But p G G') (h : H p = none) : Same H G' := fun a u e => b a u (s a u e) fun z => by
  rw [z, h] at e
  cases e
theorem StsAt.snoc {K : PySem.W.Frag} {H : Hp} {v : V} {st : St} (h : TDp K H v st.d ∧ st.Ok) : ∀ {xs : List V} {sts : List St}, StsAt K H xs sts → StsAt K H (xs ++ [v]) (sts ++ [st])
  | _, _, .nil => .cons h .nil
  | _, _, .cons a r => .cons a (StsAt.snoc h r)
theorem isIf_sort {st : St} (h : st.Ok) : decide (V.str st.sort = V.str "if") = isIf st := by
  cases st with
  | fin x =>
    rcases h with e | e
    · subst e
      show decide (V.str ("quit" : Str) = V.str "if") = false
      decide +kernel
    · subst e
      show decide (V.str ("no" : Str) = V.str "if") = false
      decide +kernel
  | set n sm sg c =>
    exact decide_eq_false fun z => acts_ne h (by decide +kernel) (V.str.inj z)
  | iff t => exact decide_eq_true rfl
  | els =>
    show decide (V.str ("else" : Str) = V.str "if") = false
    decide +kernel
  | nd =>
    show decide (V.str ("end" : Str) = V.str "if") = false
    decide +kernel
theorem none_of {H G : Hp} {a : Addr} (s : Same H G) (h : G a = none) : H a = none := by
  cases e : H a with
  | none => rfl
  | some o => exact absurd (s _ _ e) (by rw [h]; intro z; cases z)
section
variable {P : Program} {w : World} {K : PySem.W.Frag} {mg : Str → Option Value} {base : Heap}
abbrev nmOutl : List Str := ["text", "kind", "step_in", "part_in", "most_lines", "most_ifs", "loop_in", "rows", "steps", "nest", "row", "step", "many_ifs"]
theorem scOutl : FnScope nmOutl ["text", "kind", "step_in", "part_in", "most_lines", "most_ifs", "loop_in"] (defScope sOutl) := ⟨rfl, rfl, rfl, by decide +kernel, rfl, by decide +kernel, by decide +kernel⟩
theorem ok_outl {f fL fR fS fP C fI : Addr} {fd fdL fdR fdI : FuncData} (F : FunD K "read_outline" "read_outline" (defArgs sOutl) (defBody sOutl) (defScope sOutl) [.non] [] f fd) (T : TxtN mg) (O : TxtO K mg C)
    (GL : FnOk P w K mg base CX0 1 fL fdL ["text"] spLines) (kL : PySem.W.keepIn K (.ref fL) = true) (bL : Binds K fdL ["text"] []) (gL : mg "lines_of" = some (.ref fL))
    (GR : FnOk P w K mg base CX0 6 fR fdR ["words", "kind", "step_in", "part_in", "loop_in", "nest"] (spRead K fS fP)) (kR : PySem.W.keepIn K (.ref fR) = true) (bR : Binds K fdR ["words", "kind", "step_in", "part_in", "loop_in", "nest"] []) (gR : mg "read_line" = some (.ref fR))
    (M : Mk K C fI) (GI : FnOk P w K mg base CX0 2 fI fdI ["self", "rows", "steps"] (spOI K C)) (bI : Binds K fdI ["self", "rows", "steps"] []) :
    FnOk P w K mg base CX0 7 f fd ["text", "kind", "step_in", "part_in", "most_lines", "most_ifs", "loop_in"] (spOutl K C fS fP) := by
  refine F.ok0 scOutl (fun vs H Q E h => ?_) (fun cdv A outer s H vs Q E hr h => ?_)
  · obtain ⟨x, kd, ml, mi, rows, sts, tg, rfl, _⟩ := h
    rfl
  · obtain ⟨x, kd, ml, mi, rows, sts, tg, rfl, hkd, hx, hrows, hml, hn, hok, hgo0, hmi, htg, k⟩ := h
    have hr1 : Room 1 _ := hr.mono (by decide)
    have hr3 : Room 3 _ := hr.mono (by decide)
    have hr6 : Room 6 _ := hr.mono (by decide)
    refine ⟨_, pss_cons (ps_set (i := 7) scOutl.nd rfl (.inl rfl) (pe_call GL hr1 rfl gL kL bL .nil pass0 (pa_cons (pv 0) pa_nil)))
      (pss_cons (ps_if (pt_cmpR op_gt (pe_callB call_len_seq (by rfl) T.len PySem.boot_len (pa_cons (pv 7) pa_nil)) (pv 4) (nomark _)) (pss_one PS.ghost) pss_nil)
      (pss_cons (ps_set (i := 8) scOutl.nd rfl (.inl rfl) (pe_lst pa_nil))
      (pss_cons (ps_set (i := 9) scOutl.nd rfl (.inl rfl) (pe_lst pa_nil))
      (pss_cons (ps_for PassesOwn.never rfl (pi_list (pv 7)) (pg_name (i := 10) scOutl.nd rfl (Or.inl rfl))
        (pss_cons (ps_set (i := 11) scOutl.nd rfl (.inl rfl) (pe_call GR hr6 rfl gR kR bR .nil pass0 (pa_cons (pe_split (pv 10) pe_str) (pa_cons (pv 1) (pa_cons (pv 2) (pa_cons (pv 3) (pa_cons (pv 6) (pa_cons (pv 9) pa_nil))))))))
        (pss_cons (ps_if (pt_cmpR op_isN (pv 11) pe_non (nomark _)) (pss_one PS.ghost) pss_nil)
        (pss_one (ps_expr (pe_bm PySem.F.plainAttrs_list PySem.F.slot_list_append PySem.F.type_list_append mt_append (pv 8) (pa_cons (pv 11) pa_nil)))))))
      (pss_cons (ps_if (pt_truth (pv 9) (by intro _; rfl)) (pss_one PS.ghost) pss_nil)
      (pss_cons (ps_set (i := 12) scOutl.nd rfl (.inl rfl) (pe_callB call_len_seq (by rfl) T.len PySem.boot_len (pa_cons
        (pe_lc (own := [("step", 11)]) (g := gName 11) rfl scOutl.nd (pi_list (pv 8)) (blkOk_by (own := [("step", 11)]) (N := nmOutl) (sc := defScope sOutl) (by decide +kernel)) (fun _ _ _ _ _ => pg_name (i := 11) scOutl.nd rfl (Or.inl rfl)) (fun _ _ _ _ _ => pts_one (pt_cmpR op_eq (pe_ix (show IxR _ (rIxT K) from ix_tup) (pv 11) pe_int (fun _ _ => rfl)) pe_str (nomark _))) (fun _ _ _ _ _ => pv 11)) pa_nil)))
      (pss_cons (ps_if (pt_cmpR op_gt (pv 12) (pv 5) (nomark _)) (pss_one PS.ghost) pss_nil)
      (pss_one (ps_ret (pe_make M GI hr3 (by rfl) O.mgC bI .nil pass0 (pa_cons (pv 7) (pa_cons (pv 8) pa_nil)))))))))))), ?_⟩
    refine ⟨_, rfl, x, rfl, hx, fun R0 H1 s1 hR => ?_⟩
    rw [hrows] at hR
    refine ⟨_, rfl, R0, _, rfl, .inl (SqL.of hR), _, rfl, _, _, rfl, rfl, _, rfl, ?_⟩
    refine ifF3 (decide_eq_false (by rw [List.length_map]; omega)) ?_
    refine ⟨(by show 0 ≤ sizeLine; decide), fun S0 nS => ?_⟩
    have s2 := s1.trans (Same.new (o := .lst []) nS)
    refine ⟨(by show 0 ≤ sizeLine; decide), fun N0 nN => ?_⟩
    have s3 := s2.trans (Same.new (o := .lst []) nN)
    have HS : H S0 = none := none_of s1 nS
    have HN : H N0 = none := none_of s2 nN
    have SN : S0 ≠ N0 := ne_of_none upd_same nN
    have RS : R0 ≠ S0 := ne_of_none hR nS
    have hR3 : (upd (upd H1 S0 (.lst [])) N0 (.lst [])) R0 = some (.lst (rows.map V.str)) := Same.new nN _ _ (Same.new nS _ _ hR)
    have RN : R0 ≠ N0 := ne_of_none (Same.new nS _ _ hR) nN
    refine ⟨_, rfl, R0, rfl, ⟨_, SqL.of hR3⟩, for_list (K := K) (a := R0) (xs := rows.map V.str) (fun i σ G => ∃ acc nest ys v9 v10, σ = [some (.str x), some (.str kd), some (.ref fS), some (.ref fP), some (.int ml), some (.int mi), some .non, some (.ref R0), some (.ref S0), some (.ref N0), v9, v10, none] ∧
      Same H G ∧ G R0 = some (.lst (rows.map V.str)) ∧ G S0 = some (.lst ys) ∧ G N0 = some (.lst (nest.map V.str)) ∧ StsAt K G ys acc ∧ acc.length = i ∧ nest.length ≤ i ∧ NoWh nest ∧ readGo kd (rows.drop i) acc nest = some (sts, []))
      ⟨[], [], [], none, none, rfl, s3, hR3, by rw [upd_ne SN]; exact upd_same, upd_same, .nil, rfl, Nat.le_refl _, NoWh.nil, hgo0⟩ (fun i σ G _ ⟨_, _, _, _, _, _, _, e, _⟩ => SqL.of e) ?_ ?_⟩
    · rintro i y σ G hi ⟨acc, nest, ys, v9, v10, rfl, hG, gR', gS, gN, hst, hacc, hnl, hnw, hgo⟩
      obtain ⟨r, hri, rfl⟩ : ∃ r, rows[i]? = some r ∧ y = V.str r := by
        rw [List.getElem?_map] at hi
        cases e : rows[i]? with
        | none => rw [e] at hi; cases hi
        | some x => rw [e] at hi; exact ⟨x, rfl, (Option.some.inj hi).symm⟩
      obtain ⟨q1, q2, q3, q4⟩ := hok r (List.mem_of_getElem? hri)
      have hil : i < rows.length := (List.getElem?_eq_some_iff.mp hri).1
      rw [drop_cons hri] at hgo
      have hyl : ys.length = i := by rw [← hacc]; exact Paired.length hst
      refine ⟨_, rfl, ⟨_, rfl⟩, r, _, rfl, rfl, rfl, q1, fun a na => ?_⟩
      have sa := Same.new (o := .lst ((Txt.split r " ").map V.str)) na
      refine ⟨_, rfl, _, rfl, _, rfl, _, rfl, _, rfl, a, N0, Txt.split r " ", nest, kd, rfl, hnw, hkd, SqL.of upd_same, q2, q3, q4, sa _ _ gN, by omega, fun v G2 nest' b2 g2 res => ?_⟩
      have bG : But N0 G G2 := But.trans (But.same sa) b2
      have hG2 : Same H G2 := But.fresh hG bG HN
      have gR2 := bG _ _ gR' RN
      have gS2 := bG _ _ gS SN
      refine ⟨_, rfl, rfl, _, rfl, ?_⟩
      cases o : readS kd (Txt.split r " ") nest with
      | none =>
        have hgo2 : (match readS kd (Txt.split r " ") nest with
          | none => none
          | some (st, n2) => readGo kd (rows.drop (i + 1)) (acc ++ [st]) n2) = some (sts, []) := hgo
        rw [o] at hgo2
        cases hgo2
      | some pr =>
      obtain ⟨st, n2⟩ := pr
      have hgo2 : (match readS kd (Txt.split r " ") nest with
          | none => none
          | some (st, n2) => readGo kd (rows.drop (i + 1)) (acc ++ [st]) n2) = some (sts, []) := hgo
      rw [o] at hgo2 res
      obtain ⟨e1, e2, e3⟩ := res
      subst e1
      refine ifF3 (decide_eq_false e2) ?_
      refine ⟨_, rfl, .inl ⟨rfl, _, SqL.of gS2⟩, _, rfl, S0, _, _, rfl, rfl, gS2, small1000 (by omega), ?_⟩
      refine ⟨acc ++ [st], nest', ys ++ [v], _, _, rfl, Same.write hG2 HS, by rw [upd_ne RS]; exact gR2, upd_same, by rw [upd_ne SN.symm]; exact g2, ?_, by rw [List.length_append, hacc]; rfl, ?_, read_noWh o hnw, hgo2⟩
      · exact StsAt.snoc ⟨e3.keep (Tk.write gS2), read_ok o⟩ ((hst.keep (bG.tk gN)).keep (Tk.write gS2))
      · have := readS_len o
        omega
    · rintro σ G ⟨acc, nest, ys, v9, v10, rfl, hG, gR', gS, gN, hst, hacc, hnl, hnw, hgo⟩
      rw [List.drop_of_length_le (by rw [List.length_map]; exact Nat.le_refl _)] at hgo
      have e : (acc, nest) = (sts, []) := Option.some.inj hgo
      cases e
      have hyl : ys.length = sts.length := Paired.length hst
      have hsl : sts.length = rows.length := by rw [hacc, List.length_map]
      refine ⟨_, rfl, false, .inl ⟨_, SqL.of gN, rfl⟩, ?_⟩
      refine iteF ?_
      refine ⟨_, rfl, S0, rfl, ⟨_, SqL.of gS⟩, fun D nD => ?_⟩
      have sD := Same.new (o := .lst []) nD
      refine lc_list (K := K) (a := S0) (xs := ys) (fun i G2 => ∃ zs, Same G G2 ∧ G2 D = some (.lst zs) ∧ zs.length = (sts.take i).countP isIf) ⟨[], sD, upd_same, rfl⟩ (fun i G2 _ ⟨_, e, _⟩ => SqL.of (e _ _ gS)) ?_ ?_
      · rintro i y G2 hi ⟨zs, s4, hD, hz⟩
        obtain ⟨st, est, hv, hk⟩ := Paired.get hst hi
        obtain ⟨b, rest, rfl, hb⟩ := St.head (hv.keep (Same.tk s4))
        have ht : (sts.take (i + 1)).countP isIf = (sts.take i).countP isIf + (if isIf st = true then 1 else 0) := by
          rw [take_more est, List.countP_append, List.countP_singleton]
        have hle : (sts.take i).countP isIf ≤ 1000 := Nat.le_trans List.countP_le_length (by rw [List.length_take]; omega)
        refine ⟨rfl, ?_⟩
        refine ⟨_, rfl, b, _, 0, _, rfl, rfl, hb, atI_nat (j := 0) rfl, rfl, _, rfl, ?_⟩
        rw [isIf_sort hk]
        cases hif : isIf st with
        | true =>
          rw [hif, if_pos rfl] at ht
          refine iteT ?_
          refine ⟨_, rfl, zs, hD, small1000 (by omega), zs ++ [.ref b], ?_, upd_same, by rw [ht, List.length_append, hz]; rfl⟩
          exact Same.write s4 nD
        | false =>
          rw [hif, if_neg Bool.false_ne_true] at ht
          refine iteF ?_
          exact ⟨zs, s4, hD, by rw [ht, hz]; rfl⟩
      · rintro G2 ⟨zs, s4, hD, hz⟩
        rw [hyl, List.take_length] at hz
        refine ⟨D, _, rfl, .inl (SqL.of hD), ?_⟩
        refine ⟨_, rfl, _, rfl, _, _, rfl, rfl, _, rfl, ?_⟩
        refine ifF3 (decide_eq_false (by omega)) ?_
        refine ⟨_, rfl, _, rfl, fun p dx np ndx ne => ?_⟩
        have s5 := (hG.trans s4).trans ((Same.new (o := .own p) ndx).trans (Same.new (o := .ins C dx []) (by rw [upd_ne ne.symm]; exact np)))
        have s6 := s4.trans ((Same.new (o := .own p) ndx).trans (Same.new (o := .ins C dx []) (by rw [upd_ne ne.symm]; exact np)))
        refine ⟨p, dx, R0, S0, rows, ys, sts, tg, rfl, upd_same, SqL.of (s6 _ _ gR'), SqL.of (s6 _ _ gS), hst.keep (Same.tk s6), by omega, htg, fun G3 b3 hO => ⟨rfl, ?_⟩⟩
        exact k p ys G3 (But.fresh s5 b3 (none_of (hG.trans s4) np)) hO
end
end K15

set_option Elab.async false
set_option linter.all false
set_option maxRecDepth 100000
set_option maxHeartbeats 8000000
/-! Outlines, e: the ways -/
namespace K15
open PySem L2
def enders : List Str := ["quit", "no", "tell", "none"]
structure TxtW (K : PySem.W.Frag) (mg : Str → Option Value) : Prop where
  en : ∃ c, mg "ENDERS" = some (.ref c) ∧ ∀ H, SqT K H c (enders.map V.str)
/-- R l: what comes behind the place l (from 0 on) on each way, the numbers of the lines -/
structure RunEq (sts : List St) (tg : List V) (R : Nat → List (List Nat)) : Prop where
  out : ∀ l, sts.length ≤ l → R l = [[]]
  els : ∀ l, sts[l]? = some .els → ∃ t : Nat, tg[l]? = some (.int ((t + 1 : Nat) : Int)) ∧ l < t ∧ t ≤ sts.length ∧ R l = R t
  fin : ∀ l x, sts[l]? = some (.fin x) → R l = [[l + 1]]
  nd : ∀ l, sts[l]? = some .nd → R l = R (l + 1)
  set : ∀ l n sm sg k, sts[l]? = some (.set n sm sg k) → R l = (R (l + 1)).map ((l + 1) :: ·)
  iff : ∀ l c, sts[l]? = some (.iff c) → ∃ t : Nat, tg[l]? = some (.int ((t + 1 : Nat) : Int)) ∧ l < t ∧ t ≤ sts.length ∧ R l = (R (l + 1)).map ((l + 1) :: ·) ++ (R t).map ((l + 1) :: ·)
def intsV (w : List Nat) : List V := w.map fun n => .int (n : Nat)
/-- what waits: the pair's place, the list's place, the place of the line, the way so far -/
structure Wt where
  t : Addr
  a : Addr
  l : Nat
  w : List Nat
def WtAt (G : Hp) (e : Wt) : Prop := G e.t = some (.tup [.int ((e.l + 1 : Nat) : Int), .ref e.a]) ∧ G e.a = some (.lst (intsV e.w))
def WaysAt (G : Hp) : List Addr → List (List Nat) → Prop := Paired fun a w => G a = some (.lst (intsV w))
def spWays (K : PySem.W.Frag) (C : Addr) : Sp := fun vs H Q _ => ∃ (p : Addr) (rows : List Str) (xs : List V) (sts : List St) (tg : List V) (R : Nat → List (List Nat)), vs = [.ref p] ∧ OutAt K C H p rows xs sts tg ∧ sts.length ≤ 900 ∧ RunEq sts tg R ∧ (R 0).length ≤ 900 ∧
  ∀ (W : Addr) (as : List Addr) (ws : List (List Nat)) (H' : Hp), Same H H' → H' W = some (.lst (as.map V.ref)) → WaysAt H' as ws → (∀ w, w ∈ ws ↔ w ∈ R 0) → ws.length = (R 0).length → Q (.ref W) H'
/-- the state between two lines of ways_through -/
structure WS (H G : Hp) (W0 Q0 : Addr) (n : Nat) (as : List Addr) (ws : List (List Nat)) (es : List Wt) (cur : List Addr) : Prop where
  same : Same H G
  gW : G W0 = some (.lst (as.map V.ref))
  gQ : G Q0 = some (.lst (es.map fun e => V.ref e.t))
  wa : WaysAt G as ws
  ent : ∀ e ∈ es, WtAt G e ∧ e.l ≤ n ∧ e.w.length ≤ e.l
  nd : (cur ++ (as ++ es.map (·.a))).Nodup
  fr : ∀ b ∈ cur ++ (as ++ es.map (·.a)), b ≠ W0 ∧ b ≠ Q0 ∧ H b = none
  hW : H W0 = none
  hQ : H Q0 = none
  WQ : W0 ≠ Q0
theorem WaysAt.keep {G G' : Hp} : ∀ {as : List Addr} {ws : List (List Nat)}, (∀ a ∈ as, ∀ o, G a = some o → G' a = some o) → WaysAt G as ws → WaysAt G' as ws
  | _, _, _, .nil => .nil
  | _, _, h, .cons e r => .cons (h _ (List.mem_cons_self ..) _ e) (WaysAt.keep (fun a ha => h a (List.mem_cons_of_mem _ ha)) r)
theorem WaysAt.snoc {G : Hp} {a : Addr} {w : List Nat} (h : G a = some (.lst (intsV w))) : ∀ {as : List Addr} {ws : List (List Nat)}, WaysAt G as ws → WaysAt G (as ++ [a]) (ws ++ [w])
  | _, _, .nil => .cons h .nil
  | _, _, .cons e r => .cons e (WaysAt.snoc h r)
section
variable {H G : Hp} {W0 Q0 : Addr} {n : Nat} {as : List Addr} {ws : List (List Nat)} {es : List Wt} {cur : List Addr}
theorem WS.new (S : WS H G W0 Q0 n as ws es cur) {G' : Hp} (s : Same G G') : WS H G' W0 Q0 n as ws es cur :=
  ⟨S.same.trans s, s _ _ S.gW, s _ _ S.gQ, S.wa.keep fun a _ o e => s a o e, fun e he => ⟨⟨s _ _ (S.ent e he).1.1, s _ _ (S.ent e he).1.2⟩, (S.ent e he).2⟩, S.nd, S.fr, S.hW, S.hQ, S.WQ⟩
theorem WS.pop {e : Wt} (S : WS H G W0 Q0 n as ws (es ++ [e]) []) : WS H (upd G Q0 (.lst (es.map fun e => V.ref e.t))) W0 Q0 n as ws es [e.a] ∧ (upd G Q0 (.lst (es.map fun e => V.ref e.t))) e.a = some (.lst (intsV e.w)) ∧
    (upd G Q0 (.lst (es.map fun e => V.ref e.t))) e.t = some (.tup [.int ((e.l + 1 : Nat) : Int), .ref e.a]) ∧ e.l ≤ n ∧ e.w.length ≤ e.l := by
  obtain ⟨⟨h1, h2⟩, h3, h4⟩ := S.ent e (by simp)
  have f : ∀ b ∈ as ++ es.map (·.a), b ≠ W0 ∧ b ≠ Q0 ∧ H b = none := fun b hb => S.fr b (by
    rw [List.nil_append, List.map_append]
    rcases List.mem_append.mp hb with z | z
    · exact List.mem_append_left _ z
    · exact List.mem_append_right _ (List.mem_append_left _ z))
  have fe : e.a ≠ W0 ∧ e.a ≠ Q0 ∧ H e.a = none := S.fr e.a (by simp)
  have nt : e.t ≠ Q0 := ne_of h1 S.gQ (by intro z; cases z)
  refine ⟨⟨Same.write S.same S.hQ, by rw [upd_ne S.WQ]; exact S.gW, upd_same, S.wa.keep fun a ha o h => by rw [upd_ne (f a (List.mem_append_left _ ha)).2.1]; exact h, fun x hx => ?_, ?_, ?_, S.hW, S.hQ, S.WQ⟩, by rw [upd_ne fe.2.1]; exact h2, by rw [upd_ne nt]; exact h1, h3, h4⟩
  · obtain ⟨⟨k1, k2⟩, k3⟩ := S.ent x (List.mem_append_left _ hx)
    refine ⟨⟨?_, ?_⟩, k3⟩
    · rw [upd_ne (ne_of k1 S.gQ (by intro z; cases z))]
      exact k1
    · rw [upd_ne (f x.a (List.mem_append_right _ (List.mem_map.mpr ⟨x, hx, rfl⟩))).2.1]
      exact k2
  · have nd := S.nd
    rw [List.nil_append, List.map_append, ← List.append_assoc] at nd
    have nd2 := List.nodup_append.mp nd
    rw [List.singleton_append, List.nodup_cons]
    exact ⟨fun z => nd2.2.2 _ z _ (by simp) rfl, nd2.1⟩
  · intro b hb
    rcases List.mem_append.mp hb with z | z
    · rw [List.mem_singleton.mp z]
      exact fe
    · exact f b z
theorem WS.grow {a : Addr} {w : List Nat} {o : HO} (S : WS H G W0 Q0 n as ws es [a]) (ga : G a = some (.lst (intsV w))) : WS H (upd G a o) W0 Q0 n as ws es [a] := by
  have fa := S.fr a (by simp)
  have nd := S.nd
  rw [List.singleton_append, List.nodup_cons] at nd
  refine ⟨Same.write S.same fa.2.2, by rw [upd_ne fa.1.symm]; exact S.gW, by rw [upd_ne fa.2.1.symm]; exact S.gQ, S.wa.keep fun b hb o h => by rw [upd_ne (fun z => nd.1 (by rw [← z]; exact List.mem_append_left _ hb))]; exact h, fun x hx => ?_, S.nd, S.fr, S.hW, S.hQ, S.WQ⟩
  obtain ⟨⟨k1, k2⟩, k3⟩ := S.ent x hx
  refine ⟨⟨?_, ?_⟩, k3⟩
  · rw [upd_ne (ne_of k1 ga (by intro z; cases z))]
    exact k1
  · rw [upd_ne (fun z => nd.1 (by rw [← z]; exact List.mem_append_right _ (List.mem_map.mpr ⟨x, hx, rfl⟩)))]
    exact k2
theorem WS.push {a : Addr} {e : Wt} (S : WS H G W0 Q0 n as ws es [a]) (he : WtAt G e) (h1 : e.l ≤ n) (h2 : e.w.length ≤ e.l) (hf : e.a ∉ a :: (as ++ es.map (·.a))) (hn : e.a ≠ W0 ∧ e.a ≠ Q0 ∧ H e.a = none) :
    WS H (upd G Q0 (.lst (es.map (fun e => V.ref e.t) ++ [.ref e.t]))) W0 Q0 n as ws (es ++ [e]) [a] := by
  have f : ∀ b ∈ as ++ es.map (·.a), b ≠ W0 ∧ b ≠ Q0 ∧ H b = none := fun b hb => S.fr b (List.mem_append_right _ hb)
  refine ⟨Same.write S.same S.hQ, by rw [upd_ne S.WQ]; exact S.gW, by rw [List.map_append]; exact upd_same, S.wa.keep fun b hb o h => by rw [upd_ne (f b (List.mem_append_left _ hb)).2.1]; exact h, fun x hx => ?_, ?_, ?_, S.hW, S.hQ, S.WQ⟩
  · rcases List.mem_append.mp hx with z | z
    · obtain ⟨⟨k1, k2⟩, k3⟩ := S.ent x z
      refine ⟨⟨?_, ?_⟩, k3⟩
      · rw [upd_ne (ne_of k1 S.gQ (by intro z; cases z))]
        exact k1
      · rw [upd_ne (f x.a (List.mem_append_right _ (List.mem_map.mpr ⟨x, z, rfl⟩))).2.1]
        exact k2
    · rw [List.mem_singleton.mp z]
      refine ⟨⟨?_, ?_⟩, h1, h2⟩
      · rw [upd_ne (ne_of he.1 S.gQ (by intro z; cases z))]
        exact he.1
      · rw [upd_ne hn.2.1]
        exact he.2
  · have nd := S.nd
    rw [List.map_append, ← List.append_assoc as, ← List.append_assoc [a]]
    refine List.nodup_append.mpr ⟨nd, by simp, fun x hx y hy z => ?_⟩
    rw [z, List.mem_singleton.mp hy] at hx
    exact hf hx
  · intro b hb
    rw [List.map_append, ← List.append_assoc as, ← List.append_assoc [a]] at hb
    rcases List.mem_append.mp hb with z | z
    · exact S.fr b z
    · rw [List.mem_singleton.mp z]
      exact hn
theorem WS.tell {a : Addr} {w : List Nat} (S : WS H G W0 Q0 n as ws es [a]) (ga : G a = some (.lst (intsV w))) : WS H (upd G W0 (.lst (as.map V.ref ++ [.ref a]))) W0 Q0 n (as ++ [a]) (ws ++ [w]) es [] := by
  have fa := S.fr a (by simp)
  have f : ∀ b ∈ as ++ es.map (·.a), b ≠ W0 ∧ b ≠ Q0 ∧ H b = none := fun b hb => S.fr b (List.mem_append_right _ hb)
  refine ⟨Same.write S.same S.hW, by rw [List.map_append]; exact upd_same, by rw [upd_ne S.WQ.symm]; exact S.gQ, WaysAt.snoc (by rw [upd_ne fa.1]; exact ga) (S.wa.keep fun b hb o h => by rw [upd_ne (f b (List.mem_append_left _ hb)).1]; exact h), fun x hx => ?_, ?_, ?_, S.hW, S.hQ, S.WQ⟩
  · obtain ⟨⟨k1, k2⟩, k3⟩ := S.ent x hx
    refine ⟨⟨?_, ?_⟩, k3⟩
    · rw [upd_ne (ne_of k1 S.gW (by intro z; cases z))]
      exact k1
    · rw [upd_ne (f x.a (List.mem_append_right _ (List.mem_map.mpr ⟨x, hx, rfl⟩))).1]
      exact k2
  · have nd := S.nd
    rw [List.singleton_append, List.nodup_cons] at nd
    have nd2 := List.nodup_append.mp nd.2
    rw [List.nil_append, List.append_assoc]
    refine List.nodup_append.mpr ⟨nd2.1, ?_, fun x hx y hy z => ?_⟩
    · rw [List.singleton_append, List.nodup_cons]
      exact ⟨fun z => nd.1 (List.mem_append_right _ z), nd2.2.1⟩
    · rw [List.singleton_append] at hy
      rcases List.mem_cons.mp hy with e | e
      · rw [z, e] at hx
        exact nd.1 (List.mem_append_left _ hx)
      · exact nd2.2.2 x hx y e z
  · intro b hb
    rw [List.nil_append, List.append_assoc] at hb
    rcases List.mem_append.mp hb with z | z
    · exact f b (List.mem_append_left _ z)
    · rw [List.singleton_append] at z
      rcases List.mem_cons.mp z with e | e
      · rw [e]
        exact fa
      · exact f b (List.mem_append_right _ e)
end
def wSum (R : Nat → List (List Nat)) (es : List Wt) : Nat := (es.map fun e => (R e.l).length).sum
/-- the ways told, those that wait, those of the one under way -/
structure WM (R : Nat → List (List Nat)) (ws : List (List Nat)) (es : List Wt) (cur : List (List Nat)) : Prop where
  set : ∀ r, (r ∈ ws ∨ (∃ e ∈ es, ∃ q ∈ R e.l, r = e.w ++ q) ∨ r ∈ cur) ↔ r ∈ R 0
  cnt : ws.length + wSum R es + cur.length = (R 0).length
section
variable {R : Nat → List (List Nat)} {ws : List (List Nat)} {es : List Wt} {cur : List (List Nat)}
theorem wSum_snoc (e : Wt) : wSum R (es ++ [e]) = wSum R es + (R e.l).length := by
  unfold wSum
  rw [List.map_append, List.sum_append]
  rfl
theorem WM.pop {e : Wt} (M : WM R ws (es ++ [e]) []) : WM R ws es ((R e.l).map (e.w ++ ·)) := by
  refine ⟨fun r => ?_, ?_⟩
  · rw [← M.set r]
    constructor
    · rintro (h | ⟨x, hx, q, hq, e⟩ | h)
      · exact .inl h
      · exact .inr (.inl ⟨x, List.mem_append_left _ hx, q, hq, e⟩)
      · obtain ⟨q, hq, e⟩ := List.mem_map.mp h
        exact .inr (.inl ⟨_, List.mem_append_right _ (List.mem_singleton.mpr rfl), q, hq, e.symm⟩)
    · rintro (h | ⟨x, hx, q, hq, e⟩ | h)
      · exact .inl h
      · rcases List.mem_append.mp hx with z | z
        · exact .inr (.inl ⟨x, z, q, hq, e⟩)
        · rw [List.mem_singleton.mp z] at hq e
          exact .inr (.inr (List.mem_map.mpr ⟨q, hq, e.symm⟩))
      · cases h
  · have c := M.cnt
    rw [wSum_snoc] at c
    rw [List.length_map]
    have z : ([] : List (List Nat)).length = 0 := rfl
    omega
theorem WM.tell {wf : List Nat} (M : WM R ws es [wf]) : WM R (ws ++ [wf]) es [] := by
  refine ⟨fun r => ?_, ?_⟩
  · rw [← M.set r]
    constructor
    · rintro (h | h | h)
      · rcases List.mem_append.mp h with z | z
        · exact .inl z
        · exact .inr (.inr z)
      · exact .inr (.inl h)
      · cases h
    · rintro (h | h | h)
      · exact .inl (List.mem_append_left _ h)
      · exact .inr (.inl h)
      · exact .inl (List.mem_append_right _ h)
  · have c := M.cnt
    rw [List.length_append]
    have z : ([] : List (List Nat)).length = 0 := rfl
    have z1 : [wf].length = 1 := rfl
    omega
theorem WM.push {A : List (List Nat)} {e : Wt} (M : WM R ws es (A ++ (R e.l).map (e.w ++ ·))) : WM R ws (es ++ [e]) A := by
  refine ⟨fun r => ?_, ?_⟩
  · rw [← M.set r]
    constructor
    · rintro (h | ⟨x, hx, q, hq, e⟩ | h)
      · exact .inl h
      · rcases List.mem_append.mp hx with z | z
        · exact .inr (.inl ⟨x, z, q, hq, e⟩)
        · rw [List.mem_singleton.mp z] at hq e
          exact .inr (.inr (List.mem_append_right _ (List.mem_map.mpr ⟨q, hq, e.symm⟩)))
      · exact .inr (.inr (List.mem_append_left _ h))
    · rintro (h | ⟨x, hx, q, hq, e⟩ | h)
      · exact .inl h
      · exact .inr (.inl ⟨x, List.mem_append_left _ hx, q, hq, e⟩)
      · rcases List.mem_append.mp h with z | z
        · exact .inr (.inr z)
        · obtain ⟨q, hq, e⟩ := List.mem_map.mp z
          exact .inr (.inl ⟨_, List.mem_append_right _ (List.mem_singleton.mpr rfl), q, hq, e.symm⟩)
  · have c := M.cnt
    rw [List.length_append, List.length_map] at c
    rw [wSum_snoc]
    omega
end
theorem RunEq.pos {sts : List St} {tg : List V} {R : Nat → List (List Nat)} (h : RunEq sts tg R) (hok : ∀ l, l < sts.length → ∃ st, sts[l]? = some st) : ∀ (m l : Nat), sts.length - l ≤ m → l ≤ sts.length → 0 < (R l).length
  | m, l, hm, hl => by
    by_cases e : l < sts.length
    case neg =>
      rw [h.out l (by omega)]
      decide
    obtain ⟨st, hs⟩ := hok l e
    cases m with
    | zero => omega
    | succ m =>
    cases st with
    | fin x => rw [h.fin l x hs]; exact Nat.zero_lt_one
    | nd => rw [h.nd l hs]; exact RunEq.pos h hok m (l + 1) (by omega) (by omega)
    | set n sm sg k => rw [h.set l _ _ _ _ hs, List.length_map]; exact RunEq.pos h hok m (l + 1) (by omega) (by omega)
    | els =>
      obtain ⟨t, _, h1, h2, h3⟩ := h.els l hs
      rw [h3]
      exact RunEq.pos h hok m t (by omega) h2
    | iff c =>
      obtain ⟨t, _, h1, h2, h3⟩ := h.iff l c hs
      rw [h3, List.length_append, List.length_map]
      have := RunEq.pos h hok m (l + 1) (by omega) (by omega)
      omega
theorem len_sum {R : Nat → List (List Nat)} : ∀ {es : List Wt}, (∀ e ∈ es, 0 < (R e.l).length) → es.length ≤ wSum R es
  | [], _ => Nat.le_refl _
  | e :: es, h => by
    have a := h e (List.mem_cons_self ..)
    have b := len_sum (es := es) fun x hx => h x (List.mem_cons_of_mem _ hx)
    have c : wSum R (e :: es) = (R e.l).length + wSum R es := by
      unfold wSum
      rw [List.map_cons, List.sum_cons]
    rw [c, List.length_cons]
    omega
theorem WM.lenE {sts : List St} {tg : List V} {R : Nat → List (List Nat)} {ws : List (List Nat)} {es : List Wt} {cur : List (List Nat)} (h : RunEq sts tg R) (hl : (R 0).length ≤ 900) (M : WM R ws es cur) (he : ∀ e ∈ es, e.l ≤ sts.length) : es.length ≤ 900 := by
  have a := len_sum (R := R) (es := es) fun e hx => RunEq.pos h (fun l hl => ⟨_, List.getElem?_eq_getElem hl⟩) _ e.l (Nat.le_refl _) (he e hx)
  have b := M.cnt
  omega
theorem WaysAt.there {G : Hp} {a : Addr} : ∀ {as : List Addr} {ws : List (List Nat)}, WaysAt G as ws → a ∈ as → ∃ o, G a = some o
  | _, _, .nil, z => nomatch z
  | _, _, .cons h t, z => by
    rcases List.mem_cons.mp z with e | e
    · exact ⟨_, by rw [e]; exact h⟩
    · exact WaysAt.there t e
theorem map_cons_app (w : List Nat) (x : Nat) (A : List (List Nat)) : (A.map (x :: ·)).map (w ++ ·) = A.map ((w ++ [x]) ++ ·) := by
  rw [List.map_map]
  refine List.map_congr_left fun q _ => ?_
  show w ++ x :: q = (w ++ [x]) ++ q
  rw [List.append_assoc]
  rfl
def wBody : Stmt → List Stmt
  | .While _ b _ _ => b
  | _ => []
def passS : Stmt := .Pass ⟨0, 0, 0, 0⟩
section
variable {P : Program} {w : World} {K : PySem.W.Frag} {mg : Str → Option Value} {base : Heap}
abbrev nmWays : List Str := ["outline", "ways", "waiting", "line", "way", "sort"]
theorem scWays : FnScope nmWays ["outline"] (defScope sWays) := ⟨rfl, rfl, rfl, by decide +kernel, rfl, by decide +kernel, by decide +kernel⟩
theorem ok_ways {f C fM fS fT : Addr} {fd fdM fdS fdT : FuncData} (F : Fun K "ways_through" "ways_through" sWays f fd) (T : TxtN mg) (O : TxtO K mg C) (U : TxtW K mg)
    (GM : FnOk P w K mg base CX0 1 fM fdM ["self"] (spMany K C)) (mM : Meth K C "many_lines" fM) (bM : Binds K fdM ["self"] [])
    (GS : FnOk P w K mg base CX0 1 fS fdS ["self", "line"] (spStepAt K C)) (mS : Meth K C "step_at" fS) (bS : Binds K fdS ["self", "line"] [])
    (GT : FnOk P w K mg base CX0 1 fT fdT ["self", "line"] (spTargetAt K C)) (mT : Meth K C "target_at" fT) (bT : Binds K fdT ["self", "line"] []) :
    FnOk P w K mg base CX0 2 f fd ["outline"] (spWays K C) := by
  obtain ⟨ce, hce, hCE⟩ := U.en
  refine F.ok scWays (fun vs H Q E h => ?_) (fun cdv A outer s H vs Q E hr h => ?_)
  · obtain ⟨p, rows, xs, sts, tg, R, rfl, _⟩ := h
    rfl
  · obtain ⟨p, rows, xs, sts, tg, R, rfl, hO, hn, hR, hRl, k⟩ := h
    have hr1 : Room 1 _ := hr.mono (by decide)
    have hxl : xs.length = sts.length := Paired.length hO.st
    -- ways.append(way)
    obtain ⟨tA, pA, rA⟩ : ∃ tA, PSs (cxOf CX0 P w K mg base nmWays "ways_through" (defScope sWays) f cdv A outer s H E).nox ((wBody ((defBody sWays).getD 2 passS)).drop 2) tA ∧
        ∀ (D : Ends) (G : Hp) (W0 Q0 a : Addr) (as : List Addr) (ws : List (List Nat)) (es : List Wt) (wf : List Nat) (v3 v5 : Option V), WS H G W0 Q0 sts.length as ws es [a] → G a = some (.lst (intsV wf)) → WM R ws es [wf] →
          (∀ G', WS H G' W0 Q0 sts.length (as ++ [a]) (ws ++ [wf]) es [] → WM R (ws ++ [wf]) es [] → D.nx [some (.ref p), some (.ref W0), some (.ref Q0), v3, some (.ref a), v5] G') → tA D [some (.ref p), some (.ref W0), some (.ref Q0), v3, some (.ref a), v5] G := by
      refine ⟨_, pss_one (ps_expr (pe_bm PySem.F.plainAttrs_list PySem.F.slot_list_append PySem.F.type_list_append mt_append (pv 1) (pa_cons (pv 4) pa_nil))), ?_⟩
      intro D G W0 Q0 a as ws es wf v3 v5 S ga M hd
      have hc := M.cnt
      have hal : as.length = ws.length := Paired.length S.wa
      refine ⟨_, rfl, .inl ⟨rfl, _, SqL.of S.gW⟩, _, rfl, W0, _, _, rfl, rfl, S.gW, small1000 (by rw [List.length_map]; omega), ?_⟩
      exact hd _ (S.tell ga) M.tell
    -- the inner loop
    obtain ⟨tB, pB, rB⟩ : ∃ tB, PSs (cxOf CX0 P w K mg base nmWays "ways_through" (defScope sWays) f cdv A outer s H E).nox ((wBody ((defBody sWays).getD 2 passS)).drop 1) tB ∧
        ∀ (D : Ends) (G : Hp) (W0 Q0 a : Addr) (as : List Addr) (ws : List (List Nat)) (es : List Wt) (l : Nat) (wy : List Nat) (v5 : Option V), WS H G W0 Q0 sts.length as ws es [a] → G a = some (.lst (intsV wy)) → l ≤ sts.length → wy.length ≤ l → WM R ws es ((R l).map (wy ++ ·)) →
          (∀ es wf v3 v5 G', WS H G' W0 Q0 sts.length (as ++ [a]) (ws ++ [wf]) es [] → WM R (ws ++ [wf]) es [] → D.nx [some (.ref p), some (.ref W0), some (.ref Q0), v3, some (.ref a), v5] G') → tB D [some (.ref p), some (.ref W0), some (.ref Q0), some (.int ((l + 1 : Nat) : Int)), some (.ref a), v5] G := by
      refine ⟨_, pss_cons (ps_while PassesOwn.never (pt_cmpR op_le (pv 3) (pe_meth0 (pv 0) O.cl mM GM hr1 bM .nil pass0) (nomark _))
          (pss_cons (ps_set (i := 5) scWays.nd rfl (.inl rfl) (pe_ix ix_tup (pe_meth (pv 0) O.cl mS GS hr1 bS .nil pass0 (pa_cons (pv 3) pa_nil)) pe_int (fun _ _ => rfl)))
          (pss_cons (ps_if (pt_cmpR op_eq (pv 5) pe_str (nomark _))
            (pss_cons (ps_set (i := 3) scWays.nd rfl (.inl rfl) (pe_meth (pv 0) O.cl mT GT hr1 bT .nil pass0 (pa_cons (pv 3) pa_nil)))
            (pss_one ps_continue)) pss_nil)
          (pss_cons (ps_if (pt_cmpR op_ne (pv 5) pe_str (nomark _))
            (pss_one (ps_expr (pe_bm PySem.F.plainAttrs_list PySem.F.slot_list_append PySem.F.type_list_append mt_append (pv 4) (pa_cons (pv 3) pa_nil)))) pss_nil)
          (pss_cons (ps_if (pt_cmpR op_in_seq (pv 5) (pe_glob (v := .ref ce) (by rfl) hce rfl) (by rfl)) (pss_one ps_break) pss_nil)
          (pss_cons (ps_if (pt_cmpR op_eq (pv 5) pe_str (nomark _))
            (pss_one (ps_expr (pe_bm PySem.F.plainAttrs_list PySem.F.slot_list_append PySem.F.type_list_append mt_append (pv 2) (pa_cons (pe_tup (pa_cons (pe_meth (pv 0) O.cl mT GT hr1 bT .nil pass0 (pa_cons (pv 3) pa_nil)) (pa_cons (pe_callTy call_list_of (by rfl) T.list (by decide +kernel) (pa_cons (pv 4) pa_nil)) pa_nil))) pa_nil)))) pss_nil)
          (pss_one (ps_aug (i := 3) scWays.nd rfl (.inl rfl) pe_int ip_add)))))))) pA, ?_⟩
      intro D G W0 Q0 a as ws es l wy v5 S ga hl hwl M hd
      refine ⟨fun m σ G => ∃ (es : List Wt) (l : Nat) (wy : List Nat) (v5 : Option V), σ = [some (.ref p), some (.ref W0), some (.ref Q0), some (.int ((l + 1 : Nat) : Int)), some (.ref a), v5] ∧ WS H G W0 Q0 sts.length as ws es [a] ∧ G a = some (.lst (intsV wy)) ∧ l ≤ sts.length ∧ wy.length ≤ l ∧ WM R ws es ((R l).map (wy ++ ·)) ∧ m = sts.length + 1 - l,
        ⟨_, es, l, wy, v5, rfl, S, ga, hl, hwl, M, rfl⟩, ?_⟩
      rintro m σ G ⟨es, l, wy, v5, rfl, S, ga, hl, hwl, M, rfl⟩
      have hOG := hO.keep S.same
      obtain ⟨⟨dx, r1, r2, r3, eO, _, _, _⟩, _⟩ := id hOG
      have no1 : (oFl r1 r2 r3).lookup ("many_lines" : Str) = none := oFl_no _ _ _ (by decide +kernel) (by decide +kernel) (by decide +kernel)
      have no2 : (oFl r1 r2 r3).lookup ("step_at" : Str) = none := oFl_no _ _ _ (by decide +kernel) (by decide +kernel) (by decide +kernel)
      refine ⟨_, rfl, _, rfl, p, dx, _, rfl, eO, no1, p, rows, xs, sts, tg, rfl, hOG, _, _, rfl, rfl, _, rfl, ?_⟩
      by_cases hln : l < sts.length
      case neg =>
        have e : l = sts.length := by omega
        subst e
        rw [hR.out _ (Nat.le_refl _), List.map_singleton, List.append_nil] at M
        refine ifF3 (decide_eq_false (by omega)) ?_
        exact rA _ _ _ _ _ _ _ _ _ _ _ S ga M (hd _ _ _ _)
      refine ifT3 (decide_eq_true (by omega)) ?_
      refine ⟨fun σ' G' => ∃ m', m' < sts.length + 1 - l ∧ ∃ (es : List Wt) (l : Nat) (wy : List Nat) (v5 : Option V), σ' = [some (.ref p), some (.ref W0), some (.ref Q0), some (.int ((l + 1 : Nat) : Int)), some (.ref a), v5] ∧ WS H G' W0 Q0 sts.length as ws es [a] ∧ G' a = some (.lst (intsV wy)) ∧ l ≤ sts.length ∧ wy.length ≤ l ∧ WM R ws es ((R l).map (wy ++ ·)) ∧ m' = sts.length + 1 - l,
        fun σ' G' z => z, ?_⟩
      obtain ⟨v, hv⟩ : ∃ v, xs[l]? = some v := ⟨_, List.getElem?_eq_getElem (by omega)⟩
      obtain ⟨st, est, hvt, hok⟩ := Paired.get hOG.st hv
      obtain ⟨b, rest, rfl, hb⟩ := St.head hvt
      refine ⟨_, rfl, p, dx, _, rfl, eO, no2, _, rfl, p, rows, xs, sts, tg, l, _, rfl, hOG, hv, b, _, 0, _, rfl, rfl, hb, atI_nat (j := 0) rfl, ?_⟩
      refine ⟨_, rfl, rfl, _, rfl, ?_⟩
      have e2 : ∀ x y : Str, ¬ x = y → (decide (V.str x = V.str y)) = false := fun x y h => decide_eq_false fun z => h (V.str.inj z)
      have no3 : (oFl r1 r2 r3).lookup ("target_at" : Str) = none := oFl_no _ _ _ (by decide +kernel) (by decide +kernel) (by decide +kernel)
      have addW : intsV wy ++ [V.int ((l + 1 : Nat) : Int)] = intsV (wy ++ [l + 1]) := by
        unfold intsV
        rw [List.map_append]
        rfl
      have gaW : (upd G a (.lst (intsV wy ++ [V.int ((l + 1 : Nat) : Int)]))) a = some (.lst (intsV (wy ++ [l + 1]))) := by
        rw [addW]
        exact upd_same
      have SW := S.grow (o := .lst (intsV wy ++ [V.int ((l + 1 : Nat) : Int)])) ga
      have lenW : (wy ++ [l + 1]).length ≤ l + 1 := by
        rw [List.length_append]
        show wy.length + 1 ≤ l + 1
        omega
      have smW : (intsV wy).length < sizeLine := small1000 (by unfold intsV; rw [List.length_map]; omega)
      cases st with
      | els =>
        obtain ⟨t, ht, h1, h2, h3⟩ := hR.els l est
        refine ifT3 (decide_eq_true rfl) ?_
        refine ⟨_, rfl, p, dx, _, rfl, eO, no3, _, rfl, p, rows, xs, sts, tg, l, _, rfl, hOG, ht, ?_⟩
        exact ⟨sts.length + 1 - t, by omega, es, t, wy, _, rfl, S, ga, h2, by omega, by rw [← h3]; exact M, rfl⟩
      | nd =>
        have z1 : ¬ ("end" : Str) = "else" := by decide +kernel
        have z2 : ¬ ("end" : Str) = "if" := by decide +kernel
        have z3 : ¬ ("end" : Str) ∈ enders := by decide +kernel
        refine ifF3 (e2 _ _ z1) ?_
        refine ⟨_, rfl, rfl, _, rfl, ?_⟩
        refine ifF3 (by rw [decide_eq_true (show V.str St.nd.sort = V.str "end" from rfl)]; rfl) ?_
        refine ⟨_, rfl, ce, _, rfl, .inr (hCE _), rfl, flat_str enders, ?_⟩
        rw [if_neg Bool.false_ne_true, inV_str]
        refine ⟨_, rfl, ?_⟩
        refine ifF3 (decide_eq_false z3) ?_
        refine ⟨_, rfl, rfl, _, rfl, ?_⟩
        refine ifF3 (e2 _ _ z2) ?_
        refine ⟨_, rfl, _, _, rfl, rfl, ?_⟩
        exact ⟨sts.length + 1 - (l + 1), by omega, es, l + 1, wy, _, rfl, S, ga, hln, by omega, by rw [← hR.nd l est]; exact M, rfl⟩
      | set n sm sg c =>
        have z1 : ¬ n = "else" := acts_ne hok (by decide +kernel)
        have z2 : ¬ n = "if" := acts_ne hok (by decide +kernel)
        have z3 : ¬ n ∈ enders := fun z => (show ∀ x ∈ enders, ¬ x ∈ actsL by decide +kernel) n z hok
        have z4 : ¬ n = "end" := acts_ne hok (by decide +kernel)
        refine ifF3 (e2 _ _ z1) ?_
        refine ⟨_, rfl, rfl, _, rfl, ?_⟩
        refine ifT3 (show (!decide (V.str n = V.str "end")) = true by rw [e2 _ _ z4]; rfl) ?_
        refine ⟨_, rfl, .inl ⟨rfl, _, SqL.of ga⟩, _, rfl, a, _, _, rfl, rfl, ga, smW, ?_⟩
        refine ⟨_, rfl, ce, _, rfl, .inr (hCE _), rfl, flat_str enders, ?_⟩
        rw [if_neg Bool.false_ne_true, inV_str]
        refine ⟨_, rfl, ?_⟩
        refine ifF3 (decide_eq_false z3) ?_
        refine ⟨_, rfl, rfl, _, rfl, ?_⟩
        refine ifF3 (e2 _ _ z2) ?_
        refine ⟨_, rfl, _, _, rfl, rfl, ?_⟩
        exact ⟨sts.length + 1 - (l + 1), by omega, es, l + 1, wy ++ [l + 1], _, rfl, SW, gaW, hln, lenW, by rw [hR.set l _ _ _ _ est, map_cons_app] at M; exact M, rfl⟩
      | fin x =>
        have hx : x ∈ enders ∧ ¬ x = "else" ∧ ¬ x = "end" := by
          rcases hok with e | e
          · rw [e]; exact ⟨by decide +kernel, by decide +kernel, by decide +kernel⟩
          · rw [e]; exact ⟨by decide +kernel, by decide +kernel, by decide +kernel⟩
        refine ifF3 (e2 _ _ hx.2.1) ?_
        refine ⟨_, rfl, rfl, _, rfl, ?_⟩
        refine ifT3 (show (!decide (V.str x = V.str "end")) = true by rw [e2 _ _ hx.2.2]; rfl) ?_
        refine ⟨_, rfl, .inl ⟨rfl, _, SqL.of ga⟩, _, rfl, a, _, _, rfl, rfl, ga, smW, ?_⟩
        refine ⟨_, rfl, ce, _, rfl, .inr (hCE _), rfl, flat_str enders, ?_⟩
        rw [if_neg Bool.false_ne_true, inV_str]
        refine ⟨_, rfl, ?_⟩
        refine ifT3 (decide_eq_true hx.1) ?_
        rw [hR.fin l x est, List.map_singleton] at M
        exact rA _ _ _ _ _ _ _ _ _ _ _ SW gaW M (hd _ _ _ _)
      | iff c =>
        obtain ⟨t, ht, h1, h2, h3⟩ := hR.iff l c est
        have z1 : ¬ ("if" : Str) = "else" := by decide +kernel
        have z3 : ¬ ("if" : Str) ∈ enders := by decide +kernel
        have z4 : ¬ ("if" : Str) = "end" := by decide +kernel
        refine ifF3 (e2 _ _ z1) ?_
        refine ⟨_, rfl, rfl, _, rfl, ?_⟩
        refine ifT3 (show (!decide (V.str ("if" : Str) = V.str "end")) = true by rw [e2 _ _ z4]; rfl) ?_
        refine ⟨_, rfl, .inl ⟨rfl, _, SqL.of ga⟩, _, rfl, a, _, _, rfl, rfl, ga, smW, ?_⟩
        refine ⟨_, rfl, ce, _, rfl, .inr (hCE _), rfl, flat_str enders, ?_⟩
        rw [if_neg Bool.false_ne_true, inV_str]
        refine ⟨_, rfl, ?_⟩
        refine ifF3 (decide_eq_false z3) ?_
        refine ⟨_, rfl, rfl, _, rfl, ?_⟩
        refine ifT3 (decide_eq_true rfl) ?_
        have hOW := hO.keep SW.same
        obtain ⟨⟨dx', q1, q2, q3, eO', _, _, _⟩, _⟩ := id hOW
        have no4 : (oFl q1 q2 q3).lookup ("target_at" : Str) = none := oFl_no _ _ _ (by decide +kernel) (by decide +kernel) (by decide +kernel)
        refine ⟨_, rfl, .inl ⟨rfl, _, SqL.of SW.gQ⟩, _, rfl, p, dx', _, rfl, eO', no4, _, rfl, p, rows, xs, sts, tg, l, _, rfl, hOW, ht, _, rfl, a, _, rfl, .inl (SqL.of gaW), fun b2 nb => ⟨(by show 2 ≤ sizeLine; decide), fun t0 nt0 => ?_⟩⟩
        have sb := (Same.new (o := .lst (intsV (wy ++ [l + 1]))) nb)
        have st0 := (Same.new (o := .tup [.int ((t + 1 : Nat) : Int), .ref b2]) nt0)
        have S2 := (SW.new sb).new st0
        have hb2 : ∀ y, y ∈ a :: (as ++ es.map (·.a)) → ¬ b2 = y := fun y hy z => by
          rcases List.mem_cons.mp hy with e | e
          · exact ne_of_none gaW nb (e.symm.trans z.symm)
          · rcases List.mem_append.mp e with e | e
            · obtain ⟨o, ho⟩ : ∃ o, (upd G a (.lst (intsV wy ++ [V.int ((l + 1 : Nat) : Int)]))) y = some o := WaysAt.there SW.wa e
              rw [← z, nb] at ho
              cases ho
            · obtain ⟨x, hx, hxa⟩ := List.mem_map.mp e
              have := (SW.ent x hx).1.2
              rw [hxa, ← z, nb] at this
              cases this
        have hn2 : b2 ≠ W0 ∧ b2 ≠ Q0 ∧ H b2 = none := ⟨(ne_of_none SW.gW nb).symm, (ne_of_none SW.gQ nb).symm, none_of SW.same nb⟩
        refine ⟨Q0, _, _, rfl, rfl, S2.gQ, ?_, ?_⟩
        · rw [List.length_map]
          have hc := M.cnt
          have hle : es.length ≤ 900 := WM.lenE hR hRl M (fun e he => (S.ent e he).2.1)
          exact small1000 (by omega)
        refine ⟨_, rfl, _, _, rfl, rfl, ?_⟩
        have PS := S2.push (e := ⟨t0, b2, t, wy ++ [l + 1]⟩) ⟨upd_same, st0 _ _ upd_same⟩ h2 (by show (wy ++ [l + 1]).length ≤ t; omega) (fun z => hb2 _ z rfl) hn2
        refine ⟨sts.length + 1 - (l + 1), by omega, es ++ [⟨t0, b2, t, wy ++ [l + 1]⟩], l + 1, wy ++ [l + 1], _, rfl, PS, ?_, hln, lenW, ?_, rfl⟩
        · have fa := SW.fr a (by simp)
          rw [upd_ne fa.2.1]
          exact st0 _ _ (sb _ _ gaW)
        · rw [h3, List.map_append, map_cons_app, map_cons_app] at M
          exact WM.push (e := ⟨t0, b2, t, wy ++ [l + 1]⟩) M
    refine ⟨_, pss_cons (ps_set (i := 1) scWays.nd rfl (.inl rfl) (pe_lst pa_nil))
      (pss_cons (ps_set (i := 2) scWays.nd rfl (.inl rfl) (pe_lst (pa_cons (pe_tup (pa_cons pe_int (pa_cons (pe_lst pa_nil) pa_nil))) pa_nil)))
      (pss_cons (ps_while PassesOwn.never (pt_truth (pv 2) (by intro _; rfl))
        (pss_cons (ps_asg (pe_bm0 PySem.F.plainAttrs_list PySem.F.slot_list_pop PySem.F.type_list_pop mt_pop (pv 2)) (pg_tup rfl (pgs_cons (pg_name (i := 3) scWays.nd rfl (.inl rfl)) (pgs_cons (pg_name (i := 4) scWays.nd rfl (.inl rfl)) pgs_nil)))) pB))
      (pss_one (ps_ret (pv 1))))), ?_⟩
    refine ⟨(by show 0 ≤ sizeLine; decide), fun W0 nW => ?_⟩
    have s1 := Same.new (o := .lst []) nW
    refine ⟨(by show 0 ≤ sizeLine; decide), fun a0 na => ⟨(by show 2 ≤ sizeLine; decide), fun t0 nt => ⟨(by show 1 ≤ sizeLine; decide), fun Q0 nQ => ?_⟩⟩⟩
    have s2 := Same.new (o := .lst []) na
    have s3 := Same.new (o := .tup [.int 1, .ref a0]) nt
    have s4 := Same.new (o := .lst [.ref t0]) nQ
    have gW1 : (upd H W0 (.lst [])) W0 = some (.lst []) := upd_same
    have ga1 := s3 _ _ (upd_same (H := upd H W0 (.lst [])) (a := a0) (o := .lst []))
    have HW : H W0 = none := nW
    have Ha : H a0 = none := none_of s1 na
    have HQ : H Q0 = none := none_of (s1.trans (s2.trans s3)) nQ
    have S0 : WS H (upd (upd (upd (upd H W0 (.lst [])) a0 (.lst [])) t0 (.tup [.int 1, .ref a0])) Q0 (.lst [.ref t0])) W0 Q0 sts.length [] [] [⟨t0, a0, 0, []⟩] [] := by
      refine ⟨s1.trans (s2.trans (s3.trans s4)), s4 _ _ (s3 _ _ (s2 _ _ gW1)), upd_same, .nil, fun e he => ?_, by simp, fun b hb => ?_, HW, HQ, ne_of_none (s3 _ _ (s2 _ _ gW1)) nQ⟩
      · rw [List.mem_singleton.mp he]
        exact ⟨⟨s4 _ _ upd_same, s4 _ _ ga1⟩, Nat.zero_le _, Nat.le_refl _⟩
      · have e : b = a0 := by simpa using hb
        rw [e]
        exact ⟨(ne_of_none gW1 na).symm, ne_of_none ga1 nQ, Ha⟩
    have M0 : WM R [] [⟨t0, a0, 0, []⟩] [] := by
      refine ⟨fun r => ?_, ?_⟩
      · constructor
        · rintro (h | ⟨e, he, q, hq, z⟩ | h)
          · cases h
          · rw [List.mem_singleton.mp he] at hq z
            rw [z]
            exact hq
          · cases h
        · intro h
          exact .inr (.inl ⟨_, List.mem_singleton.mpr rfl, r, h, rfl⟩)
      · show 0 + ((R 0).length + 0) + 0 = (R 0).length
        omega
    refine ⟨fun m σ G => ∃ (as : List Addr) (ws : List (List Nat)) (es : List Wt) (v3 v4 v5 : Option V), σ = [some (.ref p), some (.ref W0), some (.ref Q0), v3, v4, v5] ∧ WS H G W0 Q0 sts.length as ws es [] ∧ WM R ws es [] ∧ m = wSum R es,
      ⟨_, [], [], _, none, none, none, rfl, S0, M0, rfl⟩, ?_⟩
    rintro m σ G ⟨as, ws, es, v3, v4, v5, rfl, S, M, rfl⟩
    rcases List.eq_nil_or_concat es with e | ⟨es', e, he⟩
    · subst e
      refine ⟨_, rfl, false, .inl ⟨_, SqL.of S.gQ, rfl⟩, ?_⟩
      refine iteF ?_
      refine ⟨_, rfl, ?_⟩
      refine k W0 as ws G S.same S.gW S.wa (fun r => ?_) ?_
      · rw [← M.set r]
        constructor
        · intro h
          exact .inl h
        · rintro (h | ⟨e, he, _⟩ | h)
          · exact h
          · cases he
          · cases h
      · have c := M.cnt
        have z : wSum R [] = 0 := rfl
        have z2 : ([] : List (List Nat)).length = 0 := rfl
        omega
    rw [List.concat_eq_append] at he
    subst he
    refine ⟨_, rfl, true, .inl ⟨_, SqL.of S.gQ, ?_⟩, ?_⟩
    · rw [List.map_append]
      cases es' <;> rfl
    refine iteT ?_
    refine ⟨fun σ' G' => ∃ m', m' < wSum R (es' ++ [e]) ∧ ∃ (as : List Addr) (ws : List (List Nat)) (es : List Wt) (v3 v4 v5 : Option V), σ' = [some (.ref p), some (.ref W0), some (.ref Q0), v3, v4, v5] ∧ WS H G' W0 Q0 sts.length as ws es [] ∧ WM R ws es [] ∧ m' = wSum R es, fun σ' G' z => z, ?_⟩
    obtain ⟨SP, g1, g2, g3, g4⟩ := S.pop
    have hdl : ((es' ++ [e]).map fun e => V.ref e.t).dropLast = es'.map fun e => V.ref e.t := by
      rw [List.map_append]
      exact List.dropLast_concat
    have hlast : ((es' ++ [e]).map fun e => V.ref e.t)[((es' ++ [e]).map fun e => V.ref e.t).length - 1]? = some (.ref e.t) := by
      rw [← List.getLast?_eq_getElem?, List.map_append]
      exact List.getLast?_concat
    refine ⟨_, rfl, .inl ⟨rfl, _, SqL.of S.gQ⟩, Q0, _, _, rfl, rfl, S.gQ, hlast, ?_⟩
    rw [hdl]
    refine ⟨e.t, _, rfl, SqT.of g2, rfl, _, _, rfl, _, _, rfl, rfl, ?_⟩
    refine rB _ _ _ _ _ _ _ _ _ _ _ SP g1 g3 g4 M.pop fun es2 wf v3 v5 G' S' M' => ?_
    refine ⟨wSum R es2, ?_, as ++ [e.a], ws ++ [wf], es2, _, _, _, rfl, S', M', rfl⟩
    have c1 := M.cnt
    have c2 := M'.cnt
    rw [List.length_append] at c2
    have z1 : [wf].length = 1 := rfl
    have z2 : ([] : List (List Nat)).length = 0 := rfl
    omega
end
end K15

set_option Elab.async false
set_option linter.all false
set_option maxRecDepth 100000
set_option maxHeartbeats 8000000
/-! Outlines, f: the first line above a limit -/
namespace K15
open PySem L2
/-- lines and marks in their row; the first line with a mark that stands once too often -/
def aboveGo (lim : Str → Nat) : List (Nat × Str) → List Str → Option Nat
  | [], _ => none
  | (n, m) :: r, seen => if lim m < seen.count m + 1 then some n else aboveGo lim r (seen ++ [m])
def lineMarks (sts : List St) (n : Nat) : List (Nat × Str) := ((sts.getD (n - 1) .nd).marks).map fun m => (n, m)
def wayMarks (sts : List St) (wy : List Nat) : List (Nat × Str) := wy.flatMap (lineMarks sts)
def optN : Option Nat → V
  | none => .non
  | some n => .int (n : Nat)
def spAbove (K : PySem.W.Frag) (C fM : Addr) : Sp := fun vs H Q _ => ∃ (p aw D : Addr) (rows : List Str) (xs : List V) (sts : List St) (tg : List V) (wy : List Nat) (kvs : List (Key × V)) (lim : Str → Nat), vs = [.ref p, .ref aw, .ref fM, .ref D] ∧ OutAt K C H p rows xs sts tg ∧ H aw = some (.lst (intsV wy)) ∧
  (∀ n ∈ wy, 1 ≤ n ∧ n ≤ sts.length) ∧ wy.length ≤ 900 ∧ H D = some (.dK kvs) ∧ (∀ n ∈ wy, ∀ m ∈ (sts.getD (n - 1) .nd).marks, valV kvs (Sum.inr m) = some (.int (lim m : Nat))) ∧ ∀ H', Same H H' → Q (optN (aboveGo lim (wayMarks sts wy) [])) H'
theorem above_more (lim : Str → Nat) : ∀ (a b : List (Nat × Str)) (seen : List Str), aboveGo lim a seen = none → aboveGo lim (a ++ b) seen = aboveGo lim b (seen ++ a.map (·.2))
  | [], b, seen, _ => by rw [List.nil_append, List.map_nil, List.append_nil]
  | (n, m) :: a, b, seen, h => by
    have h' : (if lim m < seen.count m + 1 then some n else aboveGo lim a (seen ++ [m])) = none := h
    show (if lim m < seen.count m + 1 then some n else aboveGo lim (a ++ b) (seen ++ [m])) = _
    by_cases e : lim m < seen.count m + 1
    · rw [if_pos e] at h'
      cases h'
    · rw [if_neg e] at h' ⊢
      rw [above_more lim a b _ h', List.map_cons, List.append_assoc]
      rfl
theorem above_hit (lim : Str → Nat) {n : Nat} : ∀ (a b : List (Nat × Str)) (seen : List Str), aboveGo lim a seen = some n → aboveGo lim (a ++ b) seen = some n
  | [], b, seen, h => by cases h
  | (k, m) :: a, b, seen, h => by
    have h' : (if lim m < seen.count m + 1 then some k else aboveGo lim a (seen ++ [m])) = some n := h
    show (if lim m < seen.count m + 1 then some k else aboveGo lim (a ++ b) (seen ++ [m])) = _
    by_cases e : lim m < seen.count m + 1
    · rw [if_pos e] at h' ⊢
      exact h'
    · rw [if_neg e] at h' ⊢
      exact above_hit lim a b _ h'
/-- the counts stand in a dict -/
def Cnts (kvs : List (Key × V)) (seen : List Str) : Prop := (∀ m : Str, valV kvs (Sum.inr m) = if seen.count m = 0 then none else some (.int (seen.count m : Nat))) ∧ kvs.length ≤ seen.length
theorem putK_len (c : List (Key × V)) (k : Key) (x : V) : (putK c k x).length ≤ c.length + 1 := by
  unfold putK
  split
  · rw [List.length_map]
    omega
  · rw [List.length_append]
    exact Nat.le_refl _
theorem Cnts.put {kvs : List (Key × V)} {seen : List Str} (h : Cnts kvs seen) (m : Str) : Cnts (putK kvs (Sum.inr m) (.int ((seen.count m : Nat) + 1 : Int))) (seen ++ [m]) := by
  refine ⟨fun k => ?_, ?_⟩
  · rw [valV_put, List.count_append]
    by_cases e : k = m
    · subst e
      rw [if_pos rfl, List.count_singleton_self, if_neg (by omega)]
      rfl
    · rw [if_neg (fun z => e (Sum.inr.inj z)), h.1 k]
      have z : [m].count k = 0 := by
        rw [List.count_singleton]
        rw [if_neg (by simpa using fun z => e z.symm)]
      rw [z, Nat.add_zero]
  · have := putK_len kvs (Sum.inr m : Key) (.int ((seen.count m : Nat) + 1 : Int))
    have := h.2
    rw [List.length_append]
    show _ ≤ seen.length + 1
    omega
theorem StsAt.ok {K : PySem.W.Frag} {H : Hp} : ∀ {xs : List V} {sts : List St}, StsAt K H xs sts → ∀ st ∈ sts, st.Ok
  | _, _, .nil, _, h => by cases h
  | _, _, .cons a r, st, h => by
    rcases List.mem_cons.mp h with e | e
    · rw [e]; exact a.2
    · exact StsAt.ok r st e
theorem getD_ok {sts : List St} (hs : ∀ st ∈ sts, st.Ok) (i : Nat) : (sts.getD i .nd).Ok := by
  rw [List.getD_eq_getElem?_getD]
  cases e : sts[i]? with
  | none => trivial
  | some st => exact hs _ (List.mem_of_getElem? e)
theorem marks_len (st : St) (h : st.Ok) : st.marks.length ≤ 4 := by
  cases st with
  | set so n ds c =>
    show (if so ∈ [("size" : Str), "size ahead", "link"] then [n, "read"] else if so ∈ [("set" : Str), "copy", "go"] then [n] else if so ∈ writingL then ["write"] else []).length ≤ 4
    split
    · show 2 ≤ 4
      decide
    split
    · show 1 ≤ 4
      decide
    split
    · show 1 ≤ 4
      decide
    · exact Nat.zero_le 4
  | iff t =>
    obtain ⟨ps, rfl, hl⟩ := h
    show (((ps.map fun p => PyData.tuple [.bool p.1, .tuple (.str p.2.1 :: p.2.2)]).filter partRead).map fun _ => ("read" : Str)).length ≤ 4
    rw [marks_eq, List.length_map]
    exact Nat.le_trans (List.length_filter_le _ _) hl
  | fin x => exact Nat.zero_le 4
  | els => exact Nat.zero_le 4
  | nd => exact Nat.zero_le 4
theorem wayMarks_len (sts : List St) (hs : ∀ st ∈ sts, st.Ok) : ∀ wy : List Nat, (wayMarks sts wy).length ≤ 4 * wy.length
  | [] => Nat.le_refl _
  | n :: wy => by
    have h : wayMarks sts (n :: wy) = lineMarks sts n ++ wayMarks sts wy := List.flatMap_cons
    rw [h, List.length_append, List.length_cons]
    have := wayMarks_len sts hs wy
    have e : (lineMarks sts n).length = ((sts.getD (n - 1) .nd).marks).length := List.length_map _
    have := marks_len (sts.getD (n - 1) .nd) (getD_ok hs _)
    omega
section
variable {P : Program} {w : World} {K : PySem.W.Frag} {mg : Str → Option Value} {base : Heap}
abbrev nmAbove : List Str := ["outline", "way", "marks_of", "most", "many", "line", "mark"]
theorem scAbove : FnScope nmAbove ["outline", "way", "marks_of", "most"] (defScope sAbove) := ⟨rfl, rfl, rfl, by decide +kernel, rfl, by decide +kernel, by decide +kernel⟩
theorem ok_above {f C fM fS : Addr} {fd fdM fdS : FuncData} (F : Fun K "line_above" "line_above" sAbove f fd) (T : TxtN mg) (O : TxtO K mg C)
    (GS : FnOk P w K mg base CX0 1 fS fdS ["self", "line"] (spStepAt K C)) (mS : Meth K C "step_at" fS) (bS : Binds K fdS ["self", "line"] [])
    (GM : FnOk P w K mg base CX0 1 fM fdM ["step"] (spMarks K)) (kM : PySem.W.keepIn K (.ref fM) = true) (bM : Binds K fdM ["step"] []) :
    FnOk P w K mg base CX0 2 f fd ["outline", "way", "marks_of", "most"] (spAbove K C fM) := by
  refine F.ok scAbove (fun vs H Q E h => ?_) (fun cdv A outer s H vs Q E hr h => ?_)
  · obtain ⟨p, aw, D, rows, xs, sts, tg, wy, kvs, lim, rfl, _⟩ := h
    rfl
  · obtain ⟨p, aw, D, rows, xs, sts, tg, wy, kvs, lim, rfl, hO, haw, hwy, hwl, hD, hlim, k⟩ := h
    have hr1 : Room 1 _ := hr.mono (by decide)
    have hu := hu_of hr
    refine ⟨_, pss_cons (ps_set (i := 4) scAbove.nd rfl (.inl rfl) pe_dnewK)
      (pss_cons (ps_for PassesOwn.never rfl (pi_list (pv 1)) (pg_name (i := 5) scAbove.nd rfl (Or.inl rfl))
        (pss_one (ps_for PassesOwn.never rfl (pi_list (pe_callL (i := 2) GM hr1 rfl (Or.inl rfl) kM bM .nil pass0 (pa_cons (pe_meth (pv 0) O.cl mS GS hr1 bS .nil pass0 (pa_cons (pv 5) pa_nil)) pa_nil))) (pg_name (i := 6) scAbove.nd rfl (Or.inl rfl))
          (pss_cons (ps_dput hu (pv 4) (pv 6) (pe_op op_add (pe_dget2 hu (pv 4) (pv 6) pe_int ⟨rfl, rfl, rfl, rfl⟩) pe_int) rfl)
          (pss_one (ps_if (pt_cmpR op_gt (pe_dget hu (pv 4) (pv 6) (fun _ _ => rfl)) (pe_dget hu (pv 3) (pv 6) (fun _ _ => rfl)) (nomark _)) (pss_one (ps_ret (pv 5))) pss_nil))))))
      (pss_one (ps_ret pe_non))), ?_⟩
    intro M0 nM
    have s1 := Same.new (o := .dK []) nM
    have HM : H M0 = none := nM
    refine ⟨_, rfl, aw, rfl, ⟨_, SqL.of (s1 _ _ haw)⟩, for_list (K := K) (a := aw) (xs := intsV wy) (fun i σ G => ∃ kvs2 v5 v6, σ = [some (.ref p), some (.ref aw), some (.ref fM), some (.ref D), some (.ref M0), v5, v6] ∧ Same H G ∧ G M0 = some (.dK kvs2) ∧
      Cnts kvs2 ((wayMarks sts (wy.take i)).map (·.2)) ∧ aboveGo lim (wayMarks sts (wy.take i)) [] = none)
      ⟨[], none, none, rfl, s1, upd_same, ⟨fun m => rfl, Nat.le_refl _⟩, rfl⟩ (fun i σ G _ ⟨_, _, _, _, e, _⟩ => SqL.of (e _ _ haw)) ?_ ?_⟩
    · rintro i y σ G hi ⟨kvs2, v5, v6, rfl, hG, gM, hC, hA⟩
      obtain ⟨n, hni, rfl⟩ : ∃ n, wy[i]? = some n ∧ y = V.int (n : Nat) := by
        unfold intsV at hi
        rw [List.getElem?_map] at hi
        cases e : wy[i]? with
        | none => rw [e] at hi; cases hi
        | some x => rw [e] at hi; exact ⟨x, rfl, (Option.some.inj hi).symm⟩
      have hnm := List.mem_of_getElem? hni
      obtain ⟨n1, n2⟩ := hwy n hnm
      have hOG := hO.keep hG
      have hxl : xs.length = sts.length := Paired.length hO.st
      obtain ⟨⟨dx, r1, r2, r3, eO, _, _, _⟩, _⟩ := id hOG
      have no2 : (oFl r1 r2 r3).lookup ("step_at" : Str) = none := oFl_no _ _ _ (by decide +kernel) (by decide +kernel) (by decide +kernel)
      obtain ⟨v, hv⟩ : ∃ v, xs[n - 1]? = some v := ⟨_, List.getElem?_eq_getElem (by omega)⟩
      obtain ⟨st, est, hvt, hok⟩ := Paired.get hOG.st hv
      have hgd : sts.getD (n - 1) .nd = st := by
        rw [List.getD_eq_getElem?_getD, est]
        rfl
      have hti : wayMarks sts (wy.take (i + 1)) = wayMarks sts (wy.take i) ++ st.marks.map fun m => (n, m) := by
        unfold wayMarks
        rw [take_more hni, List.flatMap_append]
        show _ ++ (lineMarks sts n ++ []) = _
        rw [List.append_nil]
        unfold lineMarks
        rw [hgd]
      have hil : i ≤ 900 := by
        have := (List.getElem?_eq_some_iff.mp hni).1
        omega
      have hlen0 : (wayMarks sts (wy.take i)).length ≤ 3600 := by
        have a := wayMarks_len sts (StsAt.ok hO.st) (wy.take i)
        rw [List.length_take] at a
        omega
      refine ⟨rfl, _, rfl, p, dx, _, rfl, eO, no2, _, rfl, p, rows, xs, sts, tg, n - 1, v, (by rw [show n - 1 + 1 = n by omega]; rfl), hOG, hv, v, st, rfl, hvt, hok, fun m0 G1 s2 hm0 => ?_⟩
      have hG1 := hG.trans s2
      have hMm : M0 ≠ m0 := ne_of (s2 _ _ gM) hm0 (by intro z; cases z)
      refine ⟨m0, rfl, ⟨_, SqL.of hm0⟩, for_list (K := K) (a := m0) (xs := st.marks.map V.str) (fun j σ G => ∃ kvs3 v6, σ = [some (.ref p), some (.ref aw), some (.ref fM), some (.ref D), some (.ref M0), some (.int (n : Nat)), v6] ∧ Same H G ∧ G M0 = some (.dK kvs3) ∧ G m0 = some (.lst (st.marks.map V.str)) ∧
        Cnts kvs3 ((wayMarks sts (wy.take i)).map (·.2) ++ st.marks.take j) ∧ aboveGo lim (wayMarks sts (wy.take i) ++ (st.marks.take j).map fun m => (n, m)) [] = none)
        ⟨kvs2, _, rfl, hG1, s2 _ _ gM, hm0, by rw [List.take_zero, List.append_nil]; exact hC, by rw [List.take_zero, List.map_nil, List.append_nil]; exact hA⟩ (fun j σ G _ ⟨_, _, _, _, _, e, _⟩ => SqL.of e) ?_ ?_⟩
      · rintro j y σ G2 hj ⟨kvs3, v6', rfl, hG2, gM2, gm2, hC2, hA2⟩
        obtain ⟨m, hmj, rfl⟩ : ∃ m, st.marks[j]? = some m ∧ y = V.str m := by
          rw [List.getElem?_map] at hj
          cases e : st.marks[j]? with
          | none => rw [e] at hj; cases hj
          | some x => rw [e] at hj; exact ⟨x, rfl, (Option.some.inj hj).symm⟩
        obtain ⟨seen, hseen⟩ : ∃ seen, seen = (wayMarks sts (wy.take i)).map (·.2) ++ st.marks.take j := ⟨_, rfl⟩
        rw [← hseen] at hC2
        have hseen2 : (wayMarks sts (wy.take i) ++ (st.marks.take j).map fun m => (n, m)).map (·.2) = seen := by
          rw [hseen, List.map_append, List.map_map]
          congr 1
          exact List.map_id _
        have hsl : seen.length ≤ 3604 := by
          rw [hseen, List.length_append, List.length_map, List.length_take]
          have := marks_len st hok
          omega
        have hk2 := hC2.2
        have hget : (valV kvs3 (Sum.inr m)).getD (.int 0) = .int ((seen.count m : Nat) : Int) := by
          rw [hC2.1 m]
          by_cases z : seen.count m = 0
          · rw [if_pos z, z]
            rfl
          · rw [if_neg z]
            rfl
        have hC3 := hC2.put m
        have hgo : aboveGo lim (wayMarks sts (wy.take i) ++ (st.marks.take (j + 1)).map fun m => (n, m)) [] = if lim m < seen.count m + 1 then some n else none := by
          rw [take_more hmj, List.map_append, ← List.append_assoc, above_more lim _ _ _ hA2, List.nil_append, hseen2]
          rfl
        have gM3 : (upd G2 M0 (.dK (putK kvs3 (Sum.inr m) (.int ((seen.count m : Nat) + 1 : Int))))) M0 = some (.dK (putK kvs3 (Sum.inr m) (.int ((seen.count m : Nat) + 1 : Int)))) := upd_same
        have hs3 := Same.write (o := .dK (putK kvs3 (Sum.inr m) (.int ((seen.count m : Nat) + 1 : Int)))) hG2 HM
        have hv3 : valV (putK kvs3 (Sum.inr m) (.int ((seen.count m : Nat) + 1 : Int))) (Sum.inr m) = some (.int ((seen.count m : Nat) + 1 : Int)) := by
          rw [valV_put, if_pos rfl]
        have hlimm := hlim n hnm m (by rw [hgd]; exact List.mem_of_getElem? hmj)
        refine ⟨_, rfl, M0, rfl, .inl ⟨_, .inl gM2⟩, _, rfl, _, DGet.k (k := Sum.inr m) gM2, _, _, hget, rfl, _, rfl, _, rfl, M0, _, rfl, DPut.k (k := Sum.inr m) gM2 ?_, ?_⟩
        · have : 3604 < sizeLine := by decide
          omega
        have dD : DGet (upd G2 M0 (.dK (putK kvs3 (Sum.inr m) (.int ((seen.count m : Nat) + 1 : Int))))) M0 (.str m) (some (.int ((seen.count m : Nat) + 1 : Int))) := by
          rw [← hv3]
          exact DGet.k (k := Sum.inr m) gM3
        have dL : DGet (upd G2 M0 (.dK (putK kvs3 (Sum.inr m) (.int ((seen.count m : Nat) + 1 : Int))))) D (.str m) (some (.int (lim m : Nat))) := by
          rw [← hlimm]
          exact DGet.k (k := Sum.inr m) (hs3 _ _ hD)
        refine ⟨_, rfl, _, rfl, M0, _, rfl, dD, _, rfl, _, rfl, D, _, rfl, dL, _, _, rfl, rfl, _, rfl, ?_⟩
        by_cases hh : lim m < seen.count m + 1
        · rw [if_pos hh] at hgo
          refine ifT3 (decide_eq_true (by omega)) ?_
          refine ⟨_, rfl, ?_⟩
          have fin : aboveGo lim (wayMarks sts wy) [] = some n := by
            have e1 : wayMarks sts wy = (wayMarks sts (wy.take i) ++ (st.marks.take (j + 1)).map fun m => (n, m)) ++ ((st.marks.drop (j + 1)).map (fun m => (n, m)) ++ wayMarks sts (wy.drop (i + 1))) := by
              rw [List.append_assoc, ← List.append_assoc (((st.marks.take (j + 1)).map fun m => (n, m))), ← List.map_append, List.take_append_drop, ← List.append_assoc, ← hti]
              unfold wayMarks
              rw [← List.flatMap_append, List.take_append_drop]
            rw [e1]
            exact above_hit lim _ _ _ hgo
          have kk := k _ hs3
          rw [fin] at kk
          exact kk
        · rw [if_neg hh] at hgo
          refine ifF3 (decide_eq_false (by omega)) ?_
          refine ⟨_, _, rfl, hs3, gM3, by rw [upd_ne hMm.symm]; exact gm2, ?_, hgo⟩
          rw [take_more hmj, ← List.append_assoc, ← hseen]
          exact hC3
      · rintro σ G2 ⟨kvs3, v6', rfl, hG2, gM2, gm2, hC2, hA2⟩
        rw [List.length_map, List.take_length] at hC2 hA2
        refine ⟨kvs3, _, _, rfl, hG2, gM2, ?_, by rw [hti]; exact hA2⟩
        rw [hti, List.map_append, List.map_map]
        have e : (st.marks.map ((fun x => x.2) ∘ fun m => (n, m))) = st.marks := List.map_id _
        rw [e]
        exact hC2
    · rintro σ G ⟨kvs2, v5, v6, rfl, hG, gM, hC, hA⟩
      unfold intsV at hA
      rw [List.length_map, List.take_length] at hA
      have kk := k G hG
      rw [hA] at kk
      exact kk
end
end K15

set_option Elab.async false
set_option linter.all false
set_option maxRecDepth 100000
set_option maxHeartbeats 8000000
/-! Outlines, g: the least broken line refused -/
namespace K15
open PySem L2
abbrev sRefI : Stmt := inClass (top 5) 0
def spRefuse (K : PySem.W.Frag) (CR : Addr) : Sp := fun vs H Q E => ∃ (a : Addr) (os : List (Option Nat)), vs = [.ref a] ∧ SqL K H a (os.map optN) ∧ os.length ≤ 900 ∧ (os.filterMap id = [] → ∀ H', Same H H' → Q .non H') ∧
  (∀ m ∈ os.filterMap id, (∀ y ∈ os.filterMap id, m ≤ y) → ∀ d H', Same H H' → H d = none → H' d = some (.xd [("line", .int (m : Nat))]) → E (.ref CR) (some d) H')
/-- the facts of Refused -/
structure TxtR (P : Program) (K : PySem.W.Frag) (mg : Str → Option Value) (CR fI cc cda : Addr) : Prop where
  g : mg "Refused" = some (.ref CR)
  t : ErrA.ErrTxt P K CR fI cc cda "Refused.__init__" sRefI
  b : ErrA.ErrBody P sRefI "line" []
  n : ∀ g ∈ [("line" : Str)], PySem.W.findIn K (.ref CR) g = some none
  min : mg "min" = none
section
variable {P : Program} {w : World} {K : PySem.W.Frag} {mg : Str → Option Value} {base : Heap}
abbrev nmRef : List Str := ["lines", "broken", "line"]
theorem scRefuse : FnScope nmRef ["lines"] (defScope sRefuse) := ⟨rfl, rfl, rfl, by decide +kernel, rfl, by decide +kernel, by decide +kernel⟩
theorem ok_refuse {f CR fI cc cda : Addr} {fd : FuncData} (F : Fun K "refuse_least" "refuse_least" sRefuse f fd) (T : TxtN mg) (R : TxtR P K mg CR fI cc cda) :
    FnOk P w K mg base (L2.CX P w) 1 f fd ["lines"] (spRefuse K CR) := by
  refine F.okX scRefuse (fun vs H Q E h => ?_) (fun cdv A outer s H vs Q E hr h => ?_)
  · obtain ⟨a, os, rfl, _⟩ := h
    rfl
  · obtain ⟨a, os, rfl, ha, hl, k1, k2⟩ := h
    refine ⟨_, pss_cons (ps_setLc (i := 1) (own := [("line", 2)]) (g := gName 2) rfl scRefuse.nd rfl rfl (sw_true rfl rfl rfl (by decide +kernel)) (pi_list (pv 0)) (blkOk_by (own := [("line", 2)]) (N := nmRef) (sc := defScope sRefuse) (by decide +kernel)) (fun _ _ _ _ _ => pg_name (i := 2) scRefuse.nd rfl (Or.inl rfl)) (fun _ _ _ _ _ => pts_one (pt_cmpR op_notN (pv 2) pe_non (nomark _))) (fun _ _ _ _ _ => pv 2))
      (pss_one (ps_if (pt_truth (pv 1) (by intro _; rfl)) (pss_one (ps_raiseErr rfl R.t R.b R.n hr R.g (takes_of rfl rfl rfl rfl) (pa_cons (pe_callB (cr_min rfl) (by rfl) R.min (by kernel_rfl) (pa_cons (pv 1) pa_nil)) pa_nil))) pss_nil)), ?_⟩
    refine ⟨_, rfl, a, rfl, ⟨_, ha⟩, fun D nD => ?_⟩
    have sD := Same.new (o := .lst []) nD
    refine lc_list (K := K) (a := a) (xs := os.map optN) (fun i G => Same H G ∧ G D = some (.lst (intsV ((os.take i).filterMap id)))) ⟨sD, upd_same⟩ (fun i G _ ⟨e, _⟩ => e.seq ha) ?_ ?_
    · rintro i y G hi ⟨hG, gD⟩
      obtain ⟨o, ho, rfl⟩ : ∃ o, os[i]? = some o ∧ y = optN o := by
        rw [List.getElem?_map] at hi
        cases e : os[i]? with
        | none => rw [e] at hi; cases hi
        | some x => rw [e] at hi; exact ⟨x, rfl, (Option.some.inj hi).symm⟩
      have hle : ((os.take i).filterMap id).length ≤ 900 := Nat.le_trans (List.length_filterMap_le _ _) (by rw [List.length_take]; omega)
      refine ⟨rfl, ?_⟩
      refine ⟨_, rfl, rfl, _, rfl, ?_⟩
      cases o with
      | none =>
        refine iteF ?_
        refine ⟨hG, ?_⟩
        rw [take_more ho, List.filterMap_append]
        show G D = some (.lst (intsV ((os.take i).filterMap id ++ [])))
        rw [List.append_nil]
        exact gD
      | some n =>
        refine iteT ?_
        refine ⟨_, rfl, _, gD, small1000 (by unfold intsV; rw [List.length_map]; omega), Same.write hG nD, ?_⟩
        rw [take_more ho, List.filterMap_append]
        have e : intsV ((os.take i).filterMap id ++ [some n].filterMap id) = intsV ((os.take i).filterMap id) ++ [V.int (n : Nat)] := by
          unfold intsV
          rw [List.map_append]
          rfl
        rw [e]
        exact upd_same
    · rintro G ⟨hG, gD⟩
      rw [List.length_map, List.take_length] at gD
      cases hb : os.filterMap id with
      | nil =>
        rw [hb] at gD
        refine ⟨_, rfl, false, .inl ⟨_, SqL.of gD, rfl⟩, ?_⟩
        refine iteF ?_
        exact k1 hb G hG
      | cons n0 rest =>
        refine ⟨_, rfl, true, .inl ⟨_, SqL.of gD, by rw [hb]; rfl⟩, ?_⟩
        refine iteT ?_
        have hint : intsV (os.filterMap id) = ((os.filterMap id).map fun n => ((n : Nat) : Int)).map V.int := by
          unfold intsV
          rw [List.map_map]
          rfl
        rw [hint] at gD
        refine ⟨_, rfl, D, _, rfl, SqL.of gD, by rw [List.length_map, hb]; exact Nat.succ_pos _, fun m hm hmin => ?_⟩
        obtain ⟨m', hm', rfl⟩ := List.mem_map.mp hm
        refine ⟨rfl, fun d nd => ?_⟩
        exact k2 m' hm' (fun y hy => by
          have := hmin _ (List.mem_map.mpr ⟨y, hy, rfl⟩)
          omega) d _ (hG.trans (Same.new nd)) (none_of hG nd) upd_same
end
end K15

set_option Elab.async false
set_option linter.all false
set_option maxRecDepth 100000
set_option maxHeartbeats 8000000
/-! Block codes, j: rules made -/
namespace K15
open PySem L2
structure TxtBR (K : PySem.W.Frag) (mg : Str → Option Value) (C : Addr) : Prop where
  cl : Cls K C
  nU : NoAttr K C "unit"
  nL : NoAttr K C "least"
  mgC : mg "BlockRules" = some (.ref C)
  mu : ∃ t, mg "MOST_UNIT" = some (.int 64 t)
  ll : ∃ t, mg "LEAST_LEAST" = some (.int 4 t)
def spBR (K : PySem.W.Frag) (C : Addr) : Sp := fun vs H Q _ => ∃ (p dx : Addr), vs = [.ref p, .int 1, .int 4] ∧ H p = some (.ins C dx []) ∧ ∀ H', But p H H' → Q .non H'
section
variable {P : Program} {w : World} {K : PySem.W.Frag} {mg : Str → Option Value} {base : Heap}
theorem scBR : FnScope ["self", "unit", "least"] ["self", "unit", "least"] (defScope sBR) := ⟨rfl, rfl, rfl, by decide +kernel, rfl, by decide +kernel, by decide +kernel⟩
theorem ok_rinit {f fF C : Addr} {fd fdF : FuncData} (F : Fun K "__init__" "BlockRules.__init__" sBR f fd) (T : TxtBR K mg C)
    (GF : FnOk P w K mg base CX0 2 fF fdF ["value", "least"] spFrom) (kF : PySem.W.keepIn K (.ref fF) = true) (bF : Binds K fdF ["value", "least"] []) (gF : mg "is_from" = some (.ref fF)) :
    FnOk P w K mg base CX0 3 f fd ["self", "unit", "least"] (spBR K C) := by
  obtain ⟨t1, h1⟩ := T.mu
  obtain ⟨t2, h2⟩ := T.ll
  refine F.ok scBR (fun vs H Q E h => ?_) (fun cdv A outer s H vs Q E hr h => ?_)
  · obtain ⟨p, dx, rfl, _⟩ := h
    rfl
  · obtain ⟨p, dx, rfl, hp, k⟩ := h
    refine ⟨_, pss_cons (ps_if (PW.pt (pw_or (pt_not (pt_val (pe_call GF hr rfl gF kF bF .nil pass0 (pa_cons (pv 1) (pa_cons pe_int pa_nil))))) (pw_or1 (pt_cmpR op_gt (pv 1) (pe_glob (v := .int 64) (by rfl) h1 ⟨t1, rfl⟩) (nomark _))))) (pss_one PS.ghost) pss_nil)
      (pss_cons (ps_if (PW.pt (pw_or (pt_not (pt_val (pe_call GF hr rfl gF kF bF .nil pass0 (pa_cons (pv 2) (pa_cons (pe_glob (v := .int 4) (by rfl) h2 ⟨t2, rfl⟩) pa_nil))))) (pw_or1 (pt_cmpR op_ne (pe_op op_mod (pv 2) (pv 1)) pe_int (nomark _))))) (pss_one PS.ghost) pss_nil)
      (pss_cons (ps_fld (pv 0) (pv 1) rfl)
      (pss_one (ps_fld (pv 0) (pv 2) rfl)))), ?_⟩
    refine ⟨_, rfl, 1, 1, rfl, _, rfl, ?_⟩
    refine ifF3 rfl ?_
    refine ⟨_, rfl, 1, 64, rfl, rfl, _, rfl, ?_⟩
    refine iteF ?_
    refine nxt ?_
    dsimp only
    refine ⟨_, rfl, 4, 4, rfl, _, rfl, ?_⟩
    refine ifF3 rfl ?_
    refine ⟨_, rfl, _, rfl, 4, 1, rfl, rfl, by decide, ?_⟩
    refine ⟨rfl, _, rfl, ?_⟩
    refine iteF ?_
    refine nxt ?_
    dsimp only
    refine ⟨_, rfl, _, rfl, p, C, dx, [], rfl, hp, T.cl, T.nU, (by show 0 < 1000; decide), ?_⟩
    refine ⟨_, rfl, _, rfl, p, C, dx, _, rfl, upd_same, T.cl, T.nL, (by show 1 < 1000; decide), ?_⟩
    exact k _ (But.upd.trans But.upd)
end
end K15

set_option Elab.async false
set_option linter.all false
set_option maxRecDepth 100000
set_option maxHeartbeats 8000000
/-! A copy of a dict of the module, texts to whole numbers -/
namespace L2
open PySem PySem.Spec PyProof.Rows
/-- the entries of a written dict, in order -/
def EntAt : List DictEntry → List (Str × Int) → Prop
  | [], [] => True
  | e :: es, q :: qs => ((∃ t, e.key = .str q.1 t) ∧ ∃ t, e.val = .int q.2 t) ∧ EntAt es qs
  | _, _ => False
theorem EntAt.pairs {prog : Program} {w : World} : ∀ {es : List DictEntry} {qs : List (Str × Int)}, EntAt es qs → ∃ vs : List (Key × Value), PySem.Pairs (mixKind prog w) es vs ∧ KV (qs.map fun q => ((Sum.inr q.1 : Key), V.int q.2)) vs ∧ vs.map (·.1) = qs.map fun q => (Sum.inr q.1 : Key)
  | [], [], _ => ⟨[], .nil, .nil, rfl⟩
  | e :: es, q :: qs, ⟨⟨⟨t, ek⟩, ⟨u, ev⟩⟩, r⟩ => by
    obtain ⟨vs, p, k, m⟩ := EntAt.pairs (prog := prog) (w := w) r
    refine ⟨(Sum.inr q.1, .int q.2 u) :: vs, .cons ?_ ev p, .cons ⟨rfl, ⟨u, rfl⟩⟩ k, ?_⟩
    · show keyIs (Sum.inr q.1) e.key = true
      rw [ek]
      exact keyIs_str _ _
    · rw [List.map_cons, List.map_cons, m]
  | [], _ :: _, h => h.elim
  | _ :: _, [], h => h.elim
/-- a dict of the module, of numbers by texts -/
def KInts (K : PySem.W.Frag) (w : World) (d : Addr) (qs : List (Str × Int)) : Prop := ∃ es n, KDict K w d es n ∧ EntAt es.toList qs ∧ (qs.map fun q => (Sum.inr q.1 : Key)).Nodup ∧ qs.length ≤ sizeLine
def rDictK (K : PySem.W.Frag) (w : World) : List V → Hp → VK → Prop := fun xs H Q => ∃ (d : Addr) (qs : List (Str × Int)), xs = [.ref d] ∧ KInts K w d qs ∧ ∀ p, H p = none → Q (.ref p) (upd H p (.dK (qs.map fun q => (Sum.inr q.1, V.int q.2))))
theorem call_dictK {X : Cx} : CallR X (.type "dict") (rDictK X.K X.w) := by
  intro pins s σ H xs us Q I r q
  obtain ⟨d, qs, ex, ⟨es, n, D, en, nd, z⟩, q⟩ := q
  subst ex
  obtain ⟨u, eu, rx⟩ := vals1 r
  subst eu
  cases rx
  obtain ⟨vs, pr, rel, ks⟩ := en.pairs (prog := X.prog) (w := X.w)
  have hd : s.heap.DictOf (mixKind X.prog X.w) d vs := ⟨_, es, n, I.kIn _ _ D.at_, ⟨rfl, rfl, rfl⟩, rfl, fun e he => by
    obtain ⟨x, t, e1, e2⟩ := D.lit.all e (Array.mem_toList_iff.mpr he)
    exact ⟨Sum.inr x, by show keyIs (Sum.inr x) e.key = true; rw [e1]; exact keyIs_str x t, e2⟩, pr, by rw [ks]; exact nd⟩
  have hz : vs.length ≤ sizeLine := by
    have a := congrArg List.length ks
    rw [List.length_map, List.length_map] at a
    rw [a]
    exact z
  refine kt_call_dict D.low hd hz fun h' d' hs => ?_
  have hm : (s.heap.objs.size == sysModules) = false := beq_eq_false_iff_ne.mpr (Nat.ne_of_gt I.big)
  exact ⟨.ref s.heap.objs.size, upd H s.heap.objs.size (.dK (qs.map fun q => (Sum.inr q.1, V.int q.2))), I.laid (t' := s.toks) (fun b u e => (hs.2 b (Nat.ne_of_lt (Heap.lt_size e))).trans (Heap.get?_push_of_some _ e)) (Nat.le_refl _)
    (show ObjOk X.prog X.w _ _ _ (.dK _) from ⟨by rw [List.length_map]; exact z, hm, vs, rel, d'⟩), rfl, q _ (I.hok.fresh (Nat.le_refl _))⟩
end L2

set_option Elab.async false
set_option linter.all false
set_option maxRecDepth 100000
set_option maxHeartbeats 8000000
/-! Block codes, k: what may be marked; the lines that are counted -/
namespace K15
open PySem L2
def mostL : List (Str × Int) := [("a", 3), ("b", 3), ("c", 3), ("p", 4), ("q", 4), ("r", 4), ("s", 4), ("read", 12), ("write", 14)]
def limM (m : Str) : Nat := if m ∈ regsL then 3 else if m ∈ placesL then 4 else if m = "read" then 12 else 14
def markN : List Str := ["a", "b", "c", "p", "q", "r", "s", "read", "write"]
theorem most_lim : ∀ m ∈ markN, valV (mostL.map fun q => ((Sum.inr q.1 : Key), V.int q.2)) (Sum.inr m) = some (.int (limM m : Nat)) := by decide +kernel
/-- what a line tells may be marked by its own name, by reading, by writing -/
def ActM (d : PyData) : Prop := d = .tuple [.str "quit"] ∨ d = .tuple [.str "no"] ∨ ∃ (so n : Str) (ds : List PyData), d = .tuple (.str so :: .str n :: ds) ∧ (n ∈ regsL ++ placesL ∨ so ∈ writingL)
theorem stepM_actM {kd : Str} {ws : List Str} {d : PyData} (h : stepM kd ws = some d) : ActM d := by
  unfold stepM at h
  split at h
  · rename_i hq
    cases h
    rcases hq with rfl | rfl
    · exact .inl rfl
    · exact .inr (.inl rfl)
  split at h
  · split at h
    · rename_i hr
      have hm : wd ws 0 ∈ regsL ++ placesL := List.mem_append_left _ hr
      unfold regM at h
      split at h
      · cases h; exact .inr (.inr ⟨_, _, _, rfl, .inl hm⟩)
      split at h
      · cases h; exact .inr (.inr ⟨_, _, _, rfl, .inl hm⟩)
      · obtain ⟨acc, _, rfl⟩ := Option.map_eq_some_iff.mp h
        exact .inr (.inr ⟨_, _, _, rfl, .inl hm⟩)
    split at h
    · rename_i hr
      have hm : wd ws 0 ∈ regsL ++ placesL := List.mem_append_right _ hr
      unfold placeM at h
      split at h
      · cases h; exact .inr (.inr ⟨_, _, _, rfl, .inl hm⟩)
      split at h
      · cases h
      split at h
      · cases h; exact .inr (.inr ⟨_, _, _, rfl, .inl hm⟩)
      split at h
      · cases h
      · obtain ⟨acc, _, rfl⟩ := Option.map_eq_some_iff.mp h
        exact .inr (.inr ⟨_, _, _, rfl, .inl hm⟩)
    · cases h
  split at h
  · unfold sizedM at h
    split at h
    · cases h
    split at h
    · unfold headM at h
      split at h
      · cases h; exact .inr (.inr ⟨_, _, _, rfl, .inr (by decide +kernel)⟩)
      · cases h
    · obtain ⟨acc, _, rfl⟩ := Option.map_eq_some_iff.mp h
      refine .inr (.inr ⟨_, _, _, rfl, .inr ?_⟩)
      split <;> decide +kernel
  split at h
  · unfold flagStepM at h
    dsimp only at h
    split at h
    all_goals
      split at h
      · obtain ⟨u, _, rfl⟩ := Option.map_eq_some_iff.mp h
        exact .inr (.inr ⟨_, _, _, rfl, .inr (by decide +kernel)⟩)
      · cases h
  split at h
  · unfold tieM at h
    split at h
    · cases h; exact .inr (.inr ⟨_, _, _, rfl, .inr (by decide +kernel)⟩)
    · cases h
  · cases h
theorem own_markN {n : Str} (h : n ∈ regsL ++ placesL) : n ∈ markN := (show ∀ n ∈ regsL ++ placesL, n ∈ markN by decide +kernel) n h
theorem wr_not {so : Str} (h : so ∈ writingL) : ¬ so ∈ [("size" : Str), "size ahead", "link"] ∧ ¬ so ∈ [("set" : Str), "copy", "go"] := (show ∀ so ∈ writingL, ¬ so ∈ [("size" : Str), "size ahead", "link"] ∧ ¬ so ∈ [("set" : Str), "copy", "go"] by decide +kernel) so h
theorem stepS_marks {kd : Str} {ws : List Str} {st : St} (h : stepS kd ws = some st) : ∀ m ∈ st.marks, m ∈ markN := by
  unfold stepS at h
  cases e : stepM kd ws with
  | none => rw [e] at h; cases h
  | some d =>
    rw [e] at h
    have h' : ofD d = some st := h
    rcases stepM_actM e with rfl | rfl | ⟨so, n, ds, rfl, hn⟩
    · cases h'; exact fun m hm => nomatch hm
    · cases h'; exact fun m hm => nomatch hm
    · cases h'
      intro m hm
      have hm' : m ∈ (if so ∈ [("size" : Str), "size ahead", "link"] then [n, "read"] else if so ∈ [("set" : Str), "copy", "go"] then [n] else if so ∈ writingL then ["write"] else []) := hm
      rcases hn with hn | hn
      · split at hm'
        · rcases List.mem_cons.mp hm' with z | z
          · rw [z]; exact own_markN hn
          · rw [List.mem_singleton.mp z]; decide +kernel
        split at hm'
        · rw [List.mem_singleton.mp hm']; exact own_markN hn
        split at hm'
        · rw [List.mem_singleton.mp hm']; decide +kernel
        · cases hm'
      · rw [if_neg (wr_not hn).1, if_neg (wr_not hn).2, if_pos hn] at hm'
        rw [List.mem_singleton.mp hm']
        decide +kernel
theorem iff_marks {t : PyData} : ∀ m ∈ (St.iff t).marks, m ∈ markN := fun m hm => by
  have h : m ∈ iffMarks t := hm
  unfold iffMarks at h
  split at h
  · obtain ⟨_, _, e⟩ := List.mem_map.mp h
    rw [← e]
    decide +kernel
  · cases h
theorem readS_marks {kd : Str} {ws nest n2 : List Str} {st : St} (h : readS kd ws nest = some (st, n2)) : ∀ m ∈ st.marks, m ∈ markN := by
  unfold readS at h
  split at h
  · cases e : testM (hPartM kd) (ws.drop 1) with
    | none => rw [e] at h; cases h
    | some t => rw [e] at h; cases h; exact iff_marks
  split at h
  · split at h
    · cases h
    · cases h; intro m hm; cases hm
  split at h
  · split at h
    · cases h
    · cases h; intro m hm; cases hm
  · cases e : stepS kd ws with
    | none => rw [e] at h; cases h
    | some s => rw [e] at h; cases h; exact stepS_marks e
theorem readGo_marks {kd : Str} {sts : List St} {n2 : List Str} : ∀ (rows : List Str) (acc : List St) (nest : List Str), readGo kd rows acc nest = some (sts, n2) → (∀ st ∈ acc, ∀ m ∈ st.marks, m ∈ markN) → ∀ st ∈ sts, ∀ m ∈ st.marks, m ∈ markN
  | [], acc, nest, h, ha => by
    have e : (acc, nest) = (sts, n2) := Option.some.inj h
    cases e
    exact ha
  | r :: rs, acc, nest, h, ha => by
    have h' : (match readS kd (Txt.split r " ") nest with
      | none => none
      | some (st, n2) => readGo kd rs (acc ++ [st]) n2) = some (sts, n2) := h
    cases e : readS kd (Txt.split r " ") nest with
    | none => rw [e] at h'; cases h'
    | some q =>
      obtain ⟨st, n3⟩ := q
      rw [e] at h'
      refine readGo_marks rs _ _ h' fun s hs => ?_
      rcases List.mem_append.mp hs with z | z
      · exact ha s z
      · rw [List.mem_singleton.mp z]
        exact readS_marks e
theorem readGo_len {kd : Str} {sts : List St} {n2 : List Str} : ∀ (rows : List Str) (acc : List St) (nest : List Str), readGo kd rows acc nest = some (sts, n2) → sts.length = acc.length + rows.length
  | [], acc, nest, h => by
    have e : (acc, nest) = (sts, n2) := Option.some.inj h
    cases e
    rfl
  | r :: rs, acc, nest, h => by
    have h' : (match readS kd (Txt.split r " ") nest with
      | none => none
      | some (st, n2) => readGo kd rs (acc ++ [st]) n2) = some (sts, n2) := h
    cases e : readS kd (Txt.split r " ") nest with
    | none => rw [e] at h'; cases h'
    | some q =>
      obtain ⟨st, n3⟩ := q
      rw [e] at h'
      have z := readGo_len rs _ _ h'
      rw [List.length_append] at z
      rw [List.length_cons, z]
      show acc.length + 1 + _ = _
      omega
/-- lines on a way stand in it, and are not more than there are -/
theorem RunEq.within {sts : List St} {tg : List V} {R : Nat → List (List Nat)} (h : RunEq sts tg R) : ∀ (m l : Nat), sts.length - l ≤ m → l ≤ sts.length → ∀ w ∈ R l, w.length + l ≤ sts.length ∧ ∀ n ∈ w, l < n ∧ n ≤ sts.length
  | m, l, hm, hl => by
    by_cases e : l < sts.length
    case neg =>
      rw [h.out l (by omega)]
      intro w hw
      rw [List.mem_singleton.mp hw]
      exact ⟨by simp; omega, fun n hn => nomatch hn⟩
    have hs : sts[l]? = some sts[l] := List.getElem?_eq_getElem e
    cases m with
    | zero => omega
    | succ m =>
    have step : ∀ t, l < t → t ≤ sts.length → ∀ w ∈ (R t).map ((l + 1) :: ·), w.length + l ≤ sts.length ∧ ∀ n ∈ w, l < n ∧ n ≤ sts.length := fun t h1 h2 w hw => by
      obtain ⟨q, hq, rfl⟩ := List.mem_map.mp hw
      obtain ⟨a, b⟩ := RunEq.within h m t (by omega) h2 q hq
      refine ⟨by rw [List.length_cons]; omega, fun n hn => ?_⟩
      rcases List.mem_cons.mp hn with z | z
      · omega
      · have := b n z
        omega
    generalize sts[l] = st at hs
    cases st with
    | fin x =>
      rw [h.fin l x hs]
      intro w hw
      rw [List.mem_singleton.mp hw]
      exact ⟨by show 1 + l ≤ _; omega, fun n hn => by rw [List.mem_singleton.mp hn]; omega⟩
    | nd =>
      rw [h.nd l hs]
      intro w hw
      obtain ⟨a, b⟩ := RunEq.within h m (l + 1) (by omega) (by omega) w hw
      exact ⟨by omega, fun n hn => by have := b n hn; omega⟩
    | set n sm sg k => rw [h.set l _ _ _ _ hs]; exact step (l + 1) (by omega) (by omega)
    | els =>
      obtain ⟨t, _, h1, h2, h3⟩ := h.els l hs
      rw [h3]
      intro w hw
      obtain ⟨a, b⟩ := RunEq.within h m t (by omega) h2 w hw
      exact ⟨by omega, fun n hn => by have := b n hn; omega⟩
    | iff c =>
      obtain ⟨t, _, h1, h2, h3⟩ := h.iff l c hs
      rw [h3]
      intro w hw
      rcases List.mem_append.mp hw with z | z
      · exact step (l + 1) (by omega) (by omega) w z
      · exact step t h1 h2 w z
end K15

set_option Elab.async false
set_option linter.all false
set_option maxRecDepth 100000
set_option maxHeartbeats 8000000
/-! Block codes, l: a code made -/
namespace K15
open PySem L2
abbrev sBI : Stmt := inClass (top 55) 0
structure TxtK (K : PySem.W.Frag) (w : World) (mg : Str → Option Value) (C : Addr) : Prop where
  cl : Cls K C
  nK : NoAttr K C "kind"
  nR : NoAttr K C "rules"
  nT : NoAttr K C "text"
  nO : NoAttr K C "outline"
  nF : NoAttr K C "findings"
  mgC : mg "BlockCode" = some (.ref C)
  ml : ∃ t, mg "MOST_LINES" = some (.int 48 t)
  mi : ∃ t, mg "MOST_IFS" = some (.int 7 t)
  mo : ∃ d, mg "MOST" = some (.ref d) ∧ KInts K w d mostL
  dict : mg "dict" = none
def faultM (sts : List St) (w : List Nat) : Option Nat := aboveGo limM (wayMarks sts w) []
/-- the lines of foreign words -/
def forM (rows : List Str) (sts : List St) (kd : Str) (i : Nat) : Bool := foreignM (rows.getD i Str.empty) (sts.getD i .nd) kd
def foreignL (rows : List Str) (sts : List St) (kd : Str) (n : Nat) : List Nat := ((List.range n).filter (forM rows sts kd)).map (· + 1)
theorem foreignL_more (rows : List Str) (sts : List St) (kd : Str) (n : Nat) : foreignL rows sts kd (n + 1) = foreignL rows sts kd n ++ (if forM rows sts kd n = true then [n + 1] else []) := by
  unfold foreignL
  rw [List.range_succ, List.filter_append, List.map_append]
  congr 1
  rw [List.filter_cons, List.filter_nil]
  split <;> rfl
theorem foreignL_len (rows : List Str) (sts : List St) (kd : Str) (n : Nat) : (foreignL rows sts kd n).length ≤ n := by
  unfold foreignL
  rw [List.length_map]
  exact Nat.le_trans (List.length_filter_le _ _) (Nat.le_of_eq List.length_range)
/-- a line that must be refused -/
def badM (rows : List Str) (sts : List St) (kd : Str) (ws : List (List Nat)) (m : Nat) : Prop := m ∈ foreignL rows sts kd rows.length ∨ ∃ w ∈ ws, faultM sts w = some m
theorem kKR : ¬ (("kind" : Str) = "rules") := by decide +kernel
theorem kKT : ¬ (("kind" : Str) = "text") := by decide +kernel
theorem kKO : ¬ (("kind" : Str) = "outline") := by decide +kernel
def bFl (k : Str) (u : V) (t : Str) (o : Addr) : List (Str × V) := putF "outline" (.ref o) (putF "text" (.str t) (putF "rules" u (putF "kind" (.str k) [])))
theorem bFl_o (k : Str) (u : V) (t : Str) (o : Addr) : (bFl k u t o).lookup ("outline" : Str) = some (.ref o) := by
  unfold bFl
  rw [lookup_putF, if_pos rfl]
def spBI (K : PySem.W.Frag) (C CR : Addr) : Sp := fun vs H Q E => ∃ (p dx : Addr) (u : V) (x kd : Str) (rows : List Str) (sts : List St) (tg : List V) (R : Nat → List (List Nat)), vs = [.ref p, .str kd, u, .str x] ∧ H p = some (.ins C dx []) ∧ kd ∈ kindsL ∧ x.length + 2 ≤ sizeLine ∧ linesM x = rows ∧
  rows.length ≤ 48 ∧ (∀ r ∈ rows, RowOk r) ∧ readGo kd rows [] [] = some (sts, []) ∧ sts.countP isIf ≤ 7 ∧ tgM sts = some tg ∧ RunEq sts tg R ∧ (R 0).length ≤ 800 ∧
  ((∀ m, ¬ badM rows sts kd (R 0) m) → ∀ H', But p H H' → Q .non H') ∧
  (∀ m, badM rows sts kd (R 0) m → (∀ y, badM rows sts kd (R 0) y → m ≤ y) → ∀ d H', But p H H' → H d = none → H' d = some (.xd [("line", .int (m : Nat))]) → E (.ref CR) (some d) H')
section
variable {P : Program} {w : World} {K : PySem.W.Frag} {mg : Str → Option Value} {base : Heap}
abbrev nmBI : List Str := ["self", "kind", "rules", "text", "foreign", "above", "line", "way"]
theorem scBI : FnScope nmBI ["self", "kind", "rules", "text"] (defScope sBI) := ⟨rfl, rfl, rfl, by decide +kernel, rfl, by decide +kernel, by decide +kernel⟩
theorem ok_binit {f C CO CR fA fR fS fP fW fB fM fL fF fMt fSt : Addr} {fd fdA fdR fdW fdB fdL fdF fdMt fdSt : FuncData} (F : Fun K "__init__" "BlockCode.__init__" sBI f fd) (T : TxtN mg) (TC : TxtC K w mg) (TK : TxtK K w mg C) (O : TxtO K mg CO)
    (GA : FnOk P w K mg base CX0 1 fA fdA ["value", "words"] (spAmong K)) (kA : PySem.W.keepIn K (.ref fA) = true) (bA : Binds K fdA ["value", "words"] []) (gA : mg "is_among" = some (.ref fA))
    (GR : FnOk P w K mg base CX0 7 fR fdR ["text", "kind", "step_in", "part_in", "most_lines", "most_ifs", "loop_in"] (spOutl K CO fS fP)) (kR : PySem.W.keepIn K (.ref fR) = true) (bR : Binds K fdR ["text", "kind", "step_in", "part_in", "most_lines", "most_ifs", "loop_in"] dsR) (rR : Vals [V.non] dsR) (gR : mg "read_outline" = some (.ref fR))
    (gS : mg "block_step_in" = some (.ref fS)) (gP : mg "block_part_in" = some (.ref fP)) (gM : mg "marks_of" = some (.ref fM))
    (GW : FnOk P w K mg base CX0 2 fW fdW ["outline"] (spWays K CO)) (kW : PySem.W.keepIn K (.ref fW) = true) (bW : Binds K fdW ["outline"] []) (gW : mg "ways_through" = some (.ref fW))
    (GB : FnOk P w K mg base CX0 2 fB fdB ["outline", "way", "marks_of", "most"] (spAbove K CO fM)) (kB : PySem.W.keepIn K (.ref fB) = true) (bB : Binds K fdB ["outline", "way", "marks_of", "most"] []) (gB : mg "line_above" = some (.ref fB))
    (GL : FnOk P w K mg base (L2.CX P w) 1 fL fdL ["lines"] (spRefuse K CR)) (kL : PySem.W.keepIn K (.ref fL) = true) (bL : Binds K fdL ["lines"] []) (gL : mg "refuse_least" = some (.ref fL))
    (GF : FnOk P w K mg base CX0 1 fF fdF ["row", "step", "kind"] (spForeign K)) (kF : PySem.W.keepIn K (.ref fF) = true) (bF : Binds K fdF ["row", "step", "kind"] []) (gF : mg "is_foreign" = some (.ref fF))
    (GMt : FnOk P w K mg base CX0 1 fMt fdMt ["self"] (spMany K CO)) (mMt : Meth K CO "many_lines" fMt) (bMt : Binds K fdMt ["self"] [])
    (GSt : FnOk P w K mg base CX0 1 fSt fdSt ["self", "line"] (spStepAt K CO)) (mSt : Meth K CO "step_at" fSt) (bSt : Binds K fdSt ["self", "line"] []) :
    FnOk P w K mg base (L2.CX P w) 8 f fd ["self", "kind", "rules", "text"] (spBI K C CR) := by
  obtain ⟨cK, hcK, hCK⟩ := TC.bk
  obtain ⟨t1, hml⟩ := TK.ml
  obtain ⟨t2, hmi⟩ := TK.mi
  obtain ⟨cM, hcM, hCM⟩ := TK.mo
  refine F.okX scBI (fun vs H Q E h => ?_) (fun cdv A outer s H vs Q E hr h => ?_)
  · obtain ⟨p, dx, u, x, kd, rows, sts, tg, R, rfl, _⟩ := h
    rfl
  · obtain ⟨p, dx, u, x, kd, rows, sts, tg, R, rfl, hp, hkd, hx, hrows, hn, hrok, hgo, hif, htg, hR, hRl, kOk, kBad⟩ := h
    have hr1 : Room 1 _ := hr.mono (by decide)
    have hr2 : Room 2 _ := hr.mono (by decide)
    have hr7 : Room 7 _ := hr.mono (by decide)
    have hu := hu_of hr
    refine ⟨_, pss_cons (ps_if (pt_not (pt_val (pe_call GA hr1 rfl gA kA bA .nil pass0 (pa_cons (pv 1) (pa_cons (pe_glob (v := .ref cK) (by rfl) hcK rfl) pa_nil))))) (pss_one PS.ghost) pss_nil)
      (pss_cons (ps_fld (pv 0) (pv 1) rfl)
      (pss_cons (ps_fld (pv 0) (pv 2) rfl)
      (pss_cons (ps_fld (pv 0) (pv 3) rfl)
      (pss_cons (ps_fld (pv 0) (pe_call GR hr7 rfl gR kR bR rR pass0 (pa_cons (pv 3) (pa_cons (pv 1) (pa_cons (pe_glob (v := .ref fS) (by rfl) gS rfl) (pa_cons (pe_glob (v := .ref fP) (by rfl) gP rfl) (pa_cons (pe_glob (v := .int 48) (by rfl) hml ⟨t1, rfl⟩) (pa_cons (pe_glob (v := .int 7) (by rfl) hmi ⟨t2, rfl⟩) pa_nil))))))) rfl)
      (pss_cons (ps_setLc (i := 4) (own := [("line", 6)]) (g := gName 6) (tt := (tB (tCall (spForeign K) [] E0 (tCons (tOp (rIxT K) (tFld K (tFld K (tVar 0) "outline") "rows") (tOp (rI0 fun i j => .int (i - j)) (tVar 6) (tC (.int 1)))) (tCons (tMeth CO "step_at" (spStepAt K CO) [] E0 (tFld K (tVar 0) "outline") (tCons (tVar 6) tNil)) (tCons (tVar 1) tNil)))))) (te := tVar 6) rfl scBI.nd rfl rfl (sw_true rfl rfl rfl (by decide +kernel)) (by exact pi_range2 (by rfl) T.range (pa_cons pe_int (pa_cons (pe_op op_add (pe_meth0 (pe_fld (pv 0) rfl) O.cl mMt GMt hr1 bMt .nil pass0) pe_int) pa_nil))) (blkOk_by (own := [("line", 6)]) (N := nmBI) (sc := defScope sBI) (by decide +kernel)) (fun _ _ _ _ _ => pg_name (i := 6) scBI.nd rfl (Or.inl rfl))
        (fun _ _ _ _ _ => pts_one (pt_val (by exact (pe_call GF hr1 rfl gF kF bF .nil pass0 (by exact (pa_cons (pe_ix (show IxR _ (rIxT K) from ix_tup) (pe_fld (pe_fld (pv 0) rfl) rfl) (pe_op op_sub (pv 6) pe_int) (fun _ _ => rfl)) (pa_cons (pe_meth (pe_fld (pv 0) rfl) O.cl mSt GSt hr1 bSt .nil pass0 (pa_cons (pv 6) pa_nil)) (pa_cons (pv 1) pa_nil)))))))) (fun _ _ _ _ _ => pv 6))
      (pss_cons (ps_setLc (i := 5) (own := [("way", 7)]) (g := gName 7) (te := tCall (spAbove K CO fM) [] E0 (tCons (tFld K (tVar 0) "outline") (tCons (tVar 7) (tCons (tC (.ref fM)) (tCons (tCB (rDictK K w) (tCons (tC (.ref cM)) tNil)) tNil))))) rfl scBI.nd rfl rfl (sw_true rfl rfl rfl (by decide +kernel)) (by exact pi_list (pe_call GW hr2 rfl gW kW bW .nil pass0 (pa_cons (pe_fld (pv 0) rfl) pa_nil))) (blkOk_by (own := [("way", 7)]) (N := nmBI) (sc := defScope sBI) (by decide +kernel)) (fun _ _ _ _ _ => pg_name (i := 7) scBI.nd rfl (Or.inl rfl)) (fun _ _ _ _ _ => pts_nil)
          (fun _ _ _ _ _ => by exact (pe_call GB hr2 rfl gB kB bB .nil pass0 (by exact (pa_cons (pe_fld (pv 0) rfl) (pa_cons (pv 7) (pa_cons (pe_glob (v := .ref fM) (by rfl) gM rfl) (pa_cons (pe_callTy (show CallR _ _ (rDictK K w) from call_dictK) (by rfl) TK.dict (by decide +kernel) (pa_cons (pe_glob (v := .ref cM) (by rfl) hcM rfl) pa_nil)) pa_nil))))))))
      (pss_cons (ps_expr (pe_callS GL hr1 rfl gL kL bL (fun σ => passAt (takes_of rfl rfl rfl rfl) σ) (by exact (pa_cons (pe_op op_cat (pv 4) (pv 5)) pa_nil))))
      (pss_one (ps_fld (pv 0) pe_non rfl))))))))), ?_⟩
    have hsl : sts.length = rows.length := by
      have z := readGo_len _ _ _ hgo
      rw [z]
      exact Nat.zero_add _
    refine ⟨_, rfl, kd, cK, kindsL, rfl, hCK _, _, rfl, ?_⟩
    refine ifF3 (by rw [decide_eq_true hkd]; rfl) ?_
    refine nxt ?_
    dsimp only
    refine ⟨_, rfl, _, rfl, p, C, dx, [], rfl, hp, TK.cl, TK.nK, (by show 0 < 1000; decide), ?_⟩
    refine ⟨_, rfl, _, rfl, p, C, dx, _, rfl, upd_same, TK.cl, TK.nR, (by show 1 < 1000; decide), ?_⟩
    refine ⟨_, rfl, _, rfl, p, C, dx, _, rfl, upd_same, TK.cl, TK.nT, (by show 2 < 1000; decide), ?_⟩
    obtain ⟨fl, hfl⟩ : ∃ fl, fl = putF "text" (.str x) (putF "rules" u (putF "kind" (.str kd) [])) := ⟨_, rfl⟩
    have b2 : But p H (upd (upd (upd H p (.ins C dx (putF "kind" (.str kd) []))) p (.ins C dx (putF "rules" u (putF "kind" (.str kd) [])))) p (.ins C dx fl)) := (But.upd.trans But.upd).trans But.upd
    rw [← hfl]
    refine ⟨_, rfl, _, rfl, x, kd, 48, 7, rows, sts, tg, rfl, hkd, hx, hrows, by omega, by omega, hrok, hgo, by omega, htg, fun o xs G sG hO => ?_⟩
    have gp := sG _ _ (upd_same (a := p))
    have hop : o ≠ p := fun z => by
      obtain ⟨⟨dx', r1, r2, r3, eO, _⟩, _⟩ := hO
      rw [z] at eO
      have e := HO.ins.inj (Option.some.inj (gp.symm.trans eO))
      have e2 := congrArg (fun l : List (Str × V) => l.lookup ("rows" : Str)) e.2.2
      have z1 : fl.lookup ("rows" : Str) = none := by
        rw [hfl, lookup_putF, if_neg (by decide +kernel), lookup_putF, if_neg (by decide +kernel), lookup_putF, if_neg (by decide +kernel)]
        rfl
      have e3 : fl.lookup ("rows" : Str) = (oFl r1 r2 r3).lookup ("rows" : Str) := e2
      rw [z1, oFl_r] at e3
      cases e3
    refine ⟨_, rfl, p, C, dx, _, rfl, gp, TK.cl, TK.nO, (by rw [hfl]; show 3 < 1000; decide), ?_⟩
    obtain ⟨G1, hG1⟩ : ∃ G1, G1 = upd G p (.ins C dx (bFl kd u x o)) := ⟨_, rfl⟩
    have gp1 : G1 p = some (.ins C dx (bFl kd u x o)) := by
      rw [hG1]
      exact upd_same
    have bG : But p G G1 := by
      rw [hG1]
      exact But.upd
    have bH : But p H G1 := b2.trans ((But.same sG).trans bG)
    have hO1 : OutAt K CO G1 o rows xs sts tg := by
      obtain ⟨⟨dx', r1, r2, r3, eO, h1, h2, h3⟩, h4⟩ := hO
      have tk := bG.tk gp
      exact ⟨⟨dx', r1, r2, r3, bG _ _ eO hop, tk _ _ _ h1, tk _ _ _ h2, tk _ _ _ h3⟩, h4.keep tk⟩
    show tSeq _ _ _ _ (upd G p (.ins C dx (putF "outline" (.ref o) fl)))
    rw [show (upd G p (.ins C dx (putF "outline" (.ref o) fl))) = G1 by rw [hG1, hfl]; rfl]
    have hxl : xs.length = sts.length := by
      have z : ∀ {xs : List V} {sts : List St}, StsAt K G1 xs sts → xs.length = sts.length := fun h => Paired.length h
      exact z hO1.st
    obtain ⟨⟨dxo, r1, r2, r3, eO, hR1, hR2, hR3⟩, hSt⟩ := id hO1
    have h62 : (2 : Int) ^ 62 = 4611686018427387904 := by decide
    refine ⟨_, rfl, p, C, dx, _, _, rfl, gp1, TK.cl, TK.nO, bFl_o _ _ _ _, o, dxo, _, rfl, eO, oFl_no _ _ _ (by decide +kernel) (by decide +kernel) (by decide +kernel), o, rows, xs, sts, tg, rfl, hO1, _, _, rfl, rfl, 1, _, rfl, ⟨by decide, by decide, by omega, by omega⟩, fun D nD => ?_⟩
    rw [show (((xs.length : Nat) : Int) + 1 - 1).toNat = rows.length by omega]
    have sD := Same.new (o := .lst []) nD
    refine lc_range (fun i G2 => Same G1 G2 ∧ G2 D = some (.lst (intsV (foreignL rows sts kd i)))) ⟨sD, upd_same⟩ ?_ ?_
    · rintro i G2 hi ⟨s2, gD⟩
      rw [show ((1 : Int) + (i : Nat)) = ((i + 1 : Nat) : Int) by omega]
      refine ⟨rfl, ?_⟩
      have hxi : xs[i]? = some xs[i] := List.getElem?_eq_getElem (by omega)
      generalize xs[i] = v at hxi
      obtain ⟨st, hsti, hv, hok⟩ := Paired.get hSt hxi
      have hri : rows[i]? = some (rows.getD i Str.empty) := by
        rw [List.getD_eq_getElem?_getD, List.getElem?_eq_getElem hi]
        rfl
      have hfm : forM rows sts kd i = foreignM (rows.getD i Str.empty) st kd := by
        unfold forM
        rw [List.getD_eq_getElem?_getD (l := sts), hsti]
        rfl
      have hrl : (rows.getD i Str.empty).length + 2 ≤ sizeLine := by
        exact (hrok _ (List.mem_of_getElem? hri)).1
      refine ⟨_, rfl, p, C, dx, _, _, rfl, s2 _ _ gp1, TK.cl, TK.nO, bFl_o _ _ _ _, o, CO, dxo, _, _, rfl, s2 _ _ eO, O.cl, O.nR, oFl_r _ _ _, _, rfl, _, _, rfl, rfl, r1, _, ((i : Nat) : Int), .str (rows.getD i Str.empty), rfl, (by show V.int (((i + 1 : Nat) : Int) - 1) = _; congr 1; omega), seqT s2 hR1, atI_nat (j := i) (by rw [List.getElem?_map, hri]; rfl), ?_⟩
      refine ⟨_, rfl, p, C, dx, _, _, rfl, s2 _ _ gp1, TK.cl, TK.nO, bFl_o _ _ _ _, o, dxo, _, rfl, s2 _ _ eO, oFl_no _ _ _ (by decide +kernel) (by decide +kernel) (by decide +kernel), _, rfl, o, rows, xs, sts, tg, i, v, rfl, hO1.keep s2, hxi, ?_⟩
      refine ⟨_, rfl, rows.getD i Str.empty, kd, v, st, rfl, hv.keep (Same.tk s2), hrl, fun G3 s3 => ?_⟩
      refine ⟨_, rfl, ?_⟩
      have gD3 := s3 _ _ gD
      rw [foreignL_more, hfm]
      by_cases c : foreignM (rows.getD i Str.empty) st kd = true
      · rw [if_pos c]
        refine ifT3 c ?_
        refine ⟨_, rfl, _, gD3, small1000 (by unfold intsV; rw [List.length_map]; have := foreignL_len rows sts kd i; omega), Same.write (s2.trans s3) nD, ?_⟩
        rw [upd_same]
        unfold intsV
        rw [List.map_append]
        rfl
      · rw [if_neg c, List.append_nil]
        refine ifF3 (Bool.eq_false_iff.mpr c) ?_
        exact ⟨s2.trans s3, gD3⟩
    · rintro G2 ⟨s2, gD⟩
      have gp3 := s2 _ _ gp1
      have hO3 := hO1.keep s2
      have hmk := readGo_marks _ _ _ hgo (fun s hs => nomatch hs)
      refine ⟨_, rfl, p, C, dx, _, _, rfl, gp3, TK.cl, TK.nO, bFl_o _ _ _ _, o, rows, xs, sts, tg, R, rfl, hO3, by omega, hR, by omega, fun W as ws G4 s4 gW hWA hset hwl => ?_⟩
      have hal : as.length = ws.length := Paired.length hWA
      refine ⟨W, rfl, ⟨_, SqL.of gW⟩, fun B nB => ?_⟩
      have sB := Same.new (o := .lst []) nB
      refine lc_list (K := K) (a := W) (xs := as.map V.ref) (fun i G5 => Same G4 G5 ∧ G5 B = some (.lst ((ws.take i).map fun w => optN (faultM sts w)))) ⟨sB, upd_same⟩ (fun i G5 _ ⟨e, _⟩ => SqL.of (e _ _ gW)) ?_ ?_
      · rintro i y G5 hi ⟨s5, gB5⟩
        obtain ⟨aw, haw, rfl⟩ : ∃ aw, as[i]? = some aw ∧ y = V.ref aw := by
          rw [List.getElem?_map] at hi
          cases e : as[i]? with
          | none => rw [e] at hi; cases hi
          | some z => rw [e] at hi; exact ⟨z, rfl, (Option.some.inj hi).symm⟩
        obtain ⟨wy, hwy, gaw⟩ := Paired.get hWA haw
        have hwR : wy ∈ R 0 := (hset wy).mp (List.mem_of_getElem? hwy)
        obtain ⟨w1, w2⟩ := hR.within _ 0 (Nat.le_refl _) (Nat.zero_le _) wy hwR
        have hil := (List.getElem?_eq_some_iff.mp haw).1
        refine ⟨rfl, ?_⟩
        unfold tYes
        refine iteT ?_
        refine ⟨_, rfl, p, C, dx, _, _, rfl, s5 _ _ (s4 _ _ gp3), TK.cl, TK.nO, bFl_o _ _ _ _, _, rfl, cM, mostL, rfl, hCM, fun D2 nD2 => ?_⟩
        have sD2 := Same.new (o := .dK (mostL.map fun q => ((Sum.inr q.1 : Key), V.int q.2))) nD2
        refine ⟨o, aw, D2, rows, xs, sts, tg, wy, _, limM, rfl, hO3.keep (s4.trans (s5.trans sD2)), sD2 _ _ (s5 _ _ gaw), (fun n hn => by have := w2 n hn; omega), by omega, upd_same, (fun n hn m hm => ?_), fun G6 s6 => ?_⟩
        · refine most_lim m (hmk _ ?_ m hm)
          have := w2 n hn
          rw [List.getD_eq_getElem?_getD, List.getElem?_eq_getElem (by omega)]
          exact List.getElem_mem _
        · have := s6 _ _ (sD2 _ _ gB5)
          refine ⟨_, this, small1000 (by rw [List.length_map, List.length_take]; omega), Same.write (s5.trans (sD2.trans s6)) nB, ?_⟩
          rw [take_more hwy, List.map_append]
          exact upd_same
      · rintro G5 ⟨s5, gB5⟩
        rw [List.length_map, hal, List.take_length] at gB5
        have e1 : (ws.map fun w => optN (faultM sts w)) = (ws.map (faultM sts)).map optN := by
          rw [List.map_map]
          rfl
        rw [e1] at gB5
        have e2 : intsV (foreignL rows sts kd rows.length) = ((foreignL rows sts kd rows.length).map some).map optN := by
          unfold intsV
          rw [List.map_map]
          rfl
        have gD5 := s5 _ _ (s4 _ _ gD)
        rw [e2] at gD5
        have lD : (foreignL rows sts kd rows.length).length ≤ 48 := Nat.le_trans (foreignL_len _ _ _ _) hn
        refine ⟨_, rfl, _, rfl, D, B, _, _, rfl, rfl, gD5, gB5, Nat.le_of_lt (small1000 (by rw [List.length_map, List.length_map, List.length_map, List.length_map]; omega)), fun q nq => ?_⟩
        have sq := Same.new (o := .lst (((foreignL rows sts kd rows.length).map some).map optN ++ (ws.map (faultM sts)).map optN)) nq
        have hos : ∀ y, y ∈ ((foreignL rows sts kd rows.length).map some ++ ws.map (faultM sts)).filterMap id ↔ badM rows sts kd (R 0) y := fun y => by
          rw [List.filterMap_append, List.mem_append]
          refine or_congr ⟨fun h => ?_, fun h => ?_⟩ ⟨fun h => ?_, fun h => ?_⟩
          · obtain ⟨o, ho, e⟩ := List.mem_filterMap.mp h
            obtain ⟨z, hz, e2⟩ := List.mem_map.mp ho
            have e3 : o = some y := e
            rw [e3] at e2
            cases e2
            exact hz
          · exact List.mem_filterMap.mpr ⟨some y, List.mem_map.mpr ⟨y, h, rfl⟩, rfl⟩
          · obtain ⟨o, ho, e⟩ := List.mem_filterMap.mp h
            obtain ⟨w, hw, e2⟩ := List.mem_map.mp ho
            have e3 : o = some y := e
            exact ⟨w, (hset w).mp hw, by rw [e2, e3]⟩
          · obtain ⟨w, hw, e⟩ := h
            exact List.mem_filterMap.mpr ⟨some y, List.mem_map.mpr ⟨w, (hset w).mpr hw, e⟩, rfl⟩
        have sA : Same G1 _ := s2.trans (s4.trans (s5.trans sq))
        refine ⟨q, (foreignL rows sts kd rows.length).map some ++ ws.map (faultM sts), rfl, SqL.of (by rw [List.map_append]; exact upd_same), by rw [List.length_append, List.length_map, List.length_map]; omega, fun hnil G6 s6 => ?_, fun m hm hmin d G6 s6 hd gd => ?_⟩
        · refine ⟨_, rfl, p, C, dx, _, rfl, (sA.trans s6) _ _ gp1, TK.cl, TK.nF, (by show 4 < 1000; decide), ?_⟩
          refine kOk (fun m hb => ?_) _ ((bH.trans (But.same (sA.trans s6))).trans But.upd)
          have := (hos m).mpr hb
          rw [hnil] at this
          cases this
        · refine kBad m ((hos m).mp hm) (fun y hy => hmin y ((hos y).mpr hy)) d G6 (bH.trans (But.same (sA.trans s6))) ?_ gd
          cases e : H d with
          | none => rfl
          | some u =>
            by_cases z : d = p
            · rw [z] at hd
              rw [sA _ _ gp1] at hd
              cases hd
            · have := (bH.trans (But.same sA)) _ _ e z
              rw [hd] at this
              cases this
end
end K15

set_option Elab.async false
set_option linter.all false
set_option maxRecDepth 100000
set_option maxHeartbeats 8000000
/-! Texts as trees: lines, steps, targets, ways -/
namespace K15
open PySem L2
inductive Blk where
  | nil
  | leaf (s : Str) (r : Blk)
  | iff (t : Str) (a : Blk) (e : Bool) (b r : Blk)
namespace Blk
def lines : Blk → List Str
  | nil => []
  | leaf s r => s :: lines r
  | iff t a e b r => t :: (lines a ++ ((if e = true then ("else" : Str) :: lines b else []) ++ ("end" : Str) :: lines r))
def size : Blk → Nat
  | nil => 0
  | leaf _ r => size r + 1
  | iff _ a e b r => size a + (if e = true then size b + 1 else 0) + size r + 2
def ifs : Blk → Nat
  | nil => 0
  | leaf _ r => ifs r
  | iff _ a e b r => ifs a + (if e = true then ifs b else 0) + ifs r + 1
theorem size_lines : ∀ b : Blk, b.lines.length = b.size
  | nil => rfl
  | leaf s r => by
    show (lines r).length + 1 = _
    rw [size_lines r]
    rfl
  | iff t a e b r => by
    cases e with
    | true =>
      show (lines a ++ (("else" : Str) :: lines b ++ ("end" : Str) :: lines r)).length + 1 = size a + (size b + 1) + size r + 2
      rw [List.length_append, List.length_append, List.length_cons, List.length_cons, size_lines a, size_lines b, size_lines r]
      omega
    | false =>
      show (lines a ++ (("end" : Str) :: lines r)).length + 1 = size a + 0 + size r + 2
      rw [List.length_append, List.length_cons, size_lines a, size_lines r]
      omega
/-- what its lines do -/
def steps (f : Str → St) (g : Str → PyData) : Blk → List St
  | nil => []
  | leaf s r => f s :: steps f g r
  | iff t a e b r => .iff (g t) :: (steps f g a ++ ((if e = true then St.els :: steps f g b else []) ++ St.nd :: steps f g r))
theorem size_steps (f : Str → St) (g : Str → PyData) : ∀ b : Blk, (b.steps f g).length = b.size
  | nil => rfl
  | leaf s r => by
    show (steps f g r).length + 1 = _
    rw [size_steps f g r]
    rfl
  | iff t a e b r => by
    cases e with
    | true =>
      show (steps f g a ++ (St.els :: steps f g b ++ St.nd :: steps f g r)).length + 1 = size a + (size b + 1) + size r + 2
      rw [List.length_append, List.length_append, List.length_cons, List.length_cons, size_steps f g a, size_steps f g b, size_steps f g r]
      omega
    | false =>
      show (steps f g a ++ (St.nd :: steps f g r)).length + 1 = size a + 0 + size r + 2
      rw [List.length_append, List.length_cons, size_steps f g a, size_steps f g r]
      omega
/-- the place of the else (or of the end), the place of the end -/
def p1 (i : Nat) (a : Blk) : Nat := i + 1 + size a
def p2 (i : Nat) (a : Blk) (e : Bool) (b : Blk) : Nat := if e = true then p1 i a + 1 + size b else p1 i a
def setT : Blk → Nat → List V → List V
  | nil, _, tg => tg
  | leaf _ r, i, tg => setT r (i + 1) tg
  | iff _ a e b r, i, tg => setT r (p2 i a e b + 1) (if e = true then (setT b (p1 i a + 1) ((setT a (i + 1) tg).set i (.int ((p1 i a + 2 : Nat) : Int)))).set (p1 i a) (.int ((p2 i a e b + 2 : Nat) : Int)) else (setT a (i + 1) tg).set i (.int ((p2 i a e b + 2 : Nat) : Int)))
/-- leaves are no ifs, elses, ends -/
def Plain (f : Str → St) : Blk → Prop
  | nil => True
  | leaf s r => (∀ c, f s ≠ .iff c) ∧ f s ≠ .els ∧ f s ≠ .nd ∧ Plain f r
  | iff _ a e b r => Plain f a ∧ (e = true → Plain f b) ∧ Plain f r
theorem tg_steps (f : Str → St) (g : Str → PyData) : ∀ (b : Blk), Plain f b → ∀ (rest : List St) (i : Nat) (tg : List V) (wt : List Nat), tgGo (b.steps f g ++ rest) i tg wt = tgGo rest (i + b.size) (b.setT i tg) wt
  | nil, _, rest, i, tg, wt => rfl
  | leaf s r, hp, rest, i, tg, wt => by
    obtain ⟨h1, h2, h3, h4⟩ := hp
    have e : tgGo (f s :: (r.steps f g ++ rest)) i tg wt = tgGo (r.steps f g ++ rest) (i + 1) tg wt := by
      cases hs : f s with
      | fin x => rfl
      | set n sm sg k => rfl
      | iff c => exact absurd hs (h1 c)
      | els => exact absurd hs h2
      | nd => exact absurd hs h3
    show tgGo (f s :: (r.steps f g ++ rest)) i tg wt = tgGo rest (i + (r.size + 1)) (r.setT (i + 1) tg) wt
    rw [e, tg_steps f g r h4, show i + 1 + r.size = i + (r.size + 1) by omega]
  | iff t a e b r, hp, rest, i, tg, wt => by
    obtain ⟨h1, h2, h3⟩ := hp
    cases e with
    | true =>
      show tgGo (St.iff (g t) :: ((a.steps f g ++ (St.els :: b.steps f g ++ St.nd :: r.steps f g)) ++ rest)) i tg wt = _
      rw [List.append_assoc, List.append_assoc, List.cons_append]
      show tgGo (a.steps f g ++ (St.els :: (b.steps f g ++ (St.nd :: r.steps f g ++ rest)))) (i + 1) tg (wt ++ [i]) = _
      rw [tg_steps f g a h1]
      show (match (wt ++ [i]).getLast? with
        | none => none
        | some j => tgGo (b.steps f g ++ (St.nd :: r.steps f g ++ rest)) (i + 1 + a.size + 1) ((a.setT (i + 1) tg).set j (.int ((i + 1 + a.size + 2 : Nat) : Int))) ((wt ++ [i]).dropLast ++ [i + 1 + a.size])) = _
      rw [List.getLast?_concat, List.dropLast_concat]
      show tgGo (b.steps f g ++ (St.nd :: r.steps f g ++ rest)) (i + 1 + a.size + 1) ((a.setT (i + 1) tg).set i (.int ((i + 1 + a.size + 2 : Nat) : Int))) (wt ++ [i + 1 + a.size]) = _
      rw [tg_steps f g b (h2 rfl)]
      show (match (wt ++ [i + 1 + a.size]).getLast? with
        | none => none
        | some j => tgGo (r.steps f g ++ rest) (i + 1 + a.size + 1 + b.size + 1) ((b.setT (i + 1 + a.size + 1) ((a.setT (i + 1) tg).set i (.int ((i + 1 + a.size + 2 : Nat) : Int)))).set j (.int ((i + 1 + a.size + 1 + b.size + 2 : Nat) : Int))) (wt ++ [i + 1 + a.size]).dropLast) = _
      rw [List.getLast?_concat, List.dropLast_concat]
      show tgGo (r.steps f g ++ rest) (i + 1 + a.size + 1 + b.size + 1) _ wt = _
      rw [tg_steps f g r h3]
      have e1 : i + 1 + a.size + 1 + b.size + 1 + r.size = i + (iff t a true b r).size := by
        show _ = i + (a.size + (b.size + 1) + r.size + 2)
        omega
      rw [e1]
      rfl
    | false =>
      show tgGo (St.iff (g t) :: ((a.steps f g ++ (St.nd :: r.steps f g)) ++ rest)) i tg wt = _
      rw [List.append_assoc, List.cons_append]
      show tgGo (a.steps f g ++ (St.nd :: (r.steps f g ++ rest))) (i + 1) tg (wt ++ [i]) = _
      rw [tg_steps f g a h1]
      show (match (wt ++ [i]).getLast? with
        | none => none
        | some j => tgGo (r.steps f g ++ rest) (i + 1 + a.size + 1) ((a.setT (i + 1) tg).set j (.int ((i + 1 + a.size + 2 : Nat) : Int))) (wt ++ [i]).dropLast) = _
      rw [List.getLast?_concat, List.dropLast_concat]
      show tgGo (r.steps f g ++ rest) (i + 1 + a.size + 1) _ wt = _
      rw [tg_steps f g r h3]
      have e1 : i + 1 + a.size + 1 + r.size = i + (iff t a false b r).size := by
        show _ = i + (a.size + 0 + r.size + 2)
        omega
      rw [e1]
      rfl
theorem setT_len : ∀ (b : Blk) (i : Nat) (tg : List V), (b.setT i tg).length = tg.length
  | nil, _, _ => rfl
  | leaf s r, i, tg => setT_len r (i + 1) tg
  | iff t a e b r, i, tg => by
    cases e with
    | true =>
      show (setT r _ ((setT b _ ((setT a _ tg).set _ _)).set _ _)).length = _
      rw [setT_len r, List.length_set, setT_len b, List.length_set, setT_len a]
    | false =>
      show (setT r _ ((setT a _ tg).set _ _)).length = _
      rw [setT_len r, List.length_set, setT_len a]
theorem setT_out : ∀ (b : Blk) (i : Nat) (tg : List V) (l : Nat), l < i ∨ i + b.size ≤ l → (b.setT i tg)[l]? = tg[l]?
  | nil, _, _, _, _ => rfl
  | leaf s r, i, tg, l, h => setT_out r (i + 1) tg l (by
      have z : (leaf s r).size = r.size + 1 := rfl
      omega)
  | iff t a e b r, i, tg, l, h => by
    cases e with
    | true =>
      have z : (iff t a true b r).size = a.size + (b.size + 1) + r.size + 2 := rfl
      show (setT r (i + 1 + a.size + 1 + b.size + 1) ((setT b (i + 1 + a.size + 1) ((setT a (i + 1) tg).set i _)).set (i + 1 + a.size) _))[l]? = _
      rw [setT_out r _ _ l (by omega), List.getElem?_set_ne (by omega), setT_out b _ _ l (by omega), List.getElem?_set_ne (by omega), setT_out a _ _ l (by omega)]
    | false =>
      have z : (iff t a false b r).size = a.size + 0 + r.size + 2 := rfl
      show (setT r (i + 1 + a.size + 1) ((setT a (i + 1) tg).set i _))[l]? = _
      rw [setT_out r _ _ l (by omega), List.getElem?_set_ne (by omega), setT_out a _ _ l (by omega)]
/-- the targets in it are right -/
def TgOk : Blk → Nat → List V → Prop
  | nil, _, _ => True
  | leaf _ r, i, tg => TgOk r (i + 1) tg
  | iff _ a e b r, i, tg => tg[i]? = some (.int ((p1 i a + 2 : Nat) : Int)) ∧ (e = true → tg[p1 i a]? = some (.int ((p2 i a e b + 2 : Nat) : Int))) ∧ TgOk a (i + 1) tg ∧ (e = true → TgOk b (p1 i a + 1) tg) ∧ TgOk r (p2 i a e b + 1) tg
theorem TgOk.congr : ∀ (b : Blk) (i : Nat) (tg tg' : List V), (∀ l, i ≤ l → l < i + b.size → tg'[l]? = tg[l]?) → TgOk b i tg → TgOk b i tg'
  | nil, _, _, _, _, _ => trivial
  | leaf s r, i, tg, tg', h, k => TgOk.congr r (i + 1) tg tg' (fun l h1 h2 => h l (by omega) (by
      have z : (leaf s r).size = r.size + 1 := rfl
      omega)) k
  | iff t a e b r, i, tg, tg', h, ⟨k1, k2, k3, k4, k5⟩ => by
    cases e with
    | true =>
      have z : (iff t a true b r).size = a.size + (b.size + 1) + r.size + 2 := rfl
      refine ⟨by rw [h i (by omega) (by omega)]; exact k1, fun _ => by rw [h (p1 i a) (by unfold p1; omega) (by unfold p1; omega)]; exact k2 rfl, TgOk.congr a _ tg tg' (fun l h1 h2 => h l (by omega) (by omega)) k3, fun _ => TgOk.congr b _ tg tg' (fun l h1 h2 => h l (by unfold p1 at h1; omega) (by unfold p1 at h2; omega)) (k4 rfl), TgOk.congr r _ tg tg' (fun l h1 h2 => h l (by simp [p2, p1] at h1; omega) (by simp [p2, p1] at h2; omega)) k5⟩
    | false =>
      have z : (iff t a false b r).size = a.size + 0 + r.size + 2 := rfl
      refine ⟨by rw [h i (by omega) (by omega)]; exact k1, (fun z => nomatch z), TgOk.congr a _ tg tg' (fun l h1 h2 => h l (by omega) (by omega)) k3, (fun z => nomatch z), TgOk.congr r _ tg tg' (fun l h1 h2 => h l (by simp [p2, p1] at h1; omega) (by simp [p2, p1] at h2; omega)) k5⟩
theorem setT_ok : ∀ (b : Blk) (i : Nat) (tg : List V), i + b.size ≤ tg.length → TgOk b i (b.setT i tg)
  | nil, _, _, _ => trivial
  | leaf s r, i, tg, h => setT_ok r (i + 1) tg (by
      have z : (leaf s r).size = r.size + 1 := rfl
      omega)
  | iff t a e b r, i, tg, h => by
    cases e with
    | true =>
      have z : (iff t a true b r).size = a.size + (b.size + 1) + r.size + 2 := rfl
      have e1 : p1 i a = i + 1 + a.size := rfl
      have e2 : p2 i a true b = i + 1 + a.size + 1 + b.size := rfl
      have out : ∀ l, l < i + 1 + a.size + 1 + b.size + 1 → ((iff t a true b r).setT i tg)[l]? = ((setT b (p1 i a + 1) ((setT a (i + 1) tg).set i (.int ((p1 i a + 2 : Nat) : Int)))).set (p1 i a) (.int ((p2 i a true b + 2 : Nat) : Int)))[l]? := fun l hl => setT_out r _ _ l (.inl (by rw [e2]; omega))
      refine ⟨?_, fun _ => ?_, ?_, fun _ => ?_, ?_⟩
      · rw [out i (by omega), List.getElem?_set_ne (by omega), setT_out b _ _ i (by omega), List.getElem?_set_self (by rw [setT_len a]; omega)]
      · rw [out _ (by omega), List.getElem?_set_self (by rw [setT_len b, List.length_set, setT_len a]; omega)]
      · refine TgOk.congr a (i + 1) (setT a (i + 1) tg) _ (fun l h1 h2 => ?_) (setT_ok a (i + 1) tg (by omega))
        rw [out l (by omega), List.getElem?_set_ne (by omega), setT_out b _ _ l (by omega), List.getElem?_set_ne (by omega)]
      · refine TgOk.congr b (p1 i a + 1) (setT b (p1 i a + 1) ((setT a (i + 1) tg).set i (.int ((p1 i a + 2 : Nat) : Int)))) _ (fun l h1 h2 => ?_) (setT_ok b _ _ (by rw [List.length_set, setT_len a]; omega))
        rw [out l (by omega), List.getElem?_set_ne (by omega)]
      · exact setT_ok r _ _ (by rw [if_pos rfl, List.length_set, setT_len b, List.length_set, setT_len a, e2]; omega)
    | false =>
      have z : (iff t a false b r).size = a.size + 0 + r.size + 2 := rfl
      have e1 : p1 i a = i + 1 + a.size := rfl
      have e2 : p2 i a false b = i + 1 + a.size := rfl
      have out : ∀ l, l < i + 1 + a.size + 1 → ((iff t a false b r).setT i tg)[l]? = ((setT a (i + 1) tg).set i (.int ((p2 i a false b + 2 : Nat) : Int)))[l]? := fun l hl => setT_out r _ _ l (.inl (by rw [e2]; omega))
      refine ⟨?_, (fun z => nomatch z), ?_, (fun z => nomatch z), ?_⟩
      · rw [out i (by omega), List.getElem?_set_self (by rw [setT_len a]; omega)]
        rfl
      · refine TgOk.congr a (i + 1) (setT a (i + 1) tg) _ (fun l h1 h2 => ?_) (setT_ok a (i + 1) tg (by omega))
        rw [out l (by omega), List.getElem?_set_ne (by omega)]
      · exact setT_ok r _ _ (by rw [if_neg Bool.false_ne_true, List.length_set, setT_len a, e2]; omega)
end Blk
end K15

set_option Elab.async false
set_option linter.all false
set_option maxRecDepth 100000
set_option maxHeartbeats 8000000
/-! Texts as trees, b: the ways -/
namespace K15
open PySem L2
namespace Blk
def isFin : St → Bool
  | .fin _ => true
  | _ => false
/-- the ways through it, K what comes behind -/
def ways (f : Str → St) : Blk → Nat → List (List Nat) → List (List Nat)
  | nil, _, K => K
  | leaf s r, i, K => if isFin (f s) = true then [[i + 1]] else (ways f r (i + 1) K).map ((i + 1) :: ·)
  | iff _ a e b r, i, K => (ways f a (i + 1) (ways f r (p2 i a e b + 1) K)).map ((i + 1) :: ·) ++ (if e = true then ways f b (p1 i a + 1) (ways f r (p2 i a e b + 1) K) else ways f r (p2 i a e b + 1) K).map ((i + 1) :: ·)
/-- the ways from a place within on -/
def rAt (f : Str → St) : Blk → Nat → List (List Nat) → Nat → List (List Nat)
  | nil, _, K, _ => K
  | leaf s r, i, K, l => if l = i then ways f (leaf s r) i K else rAt f r (i + 1) K l
  | iff t a e b r, i, K, l => if l = i then ways f (iff t a e b r) i K else if l ≤ p1 i a then rAt f a (i + 1) (ways f r (p2 i a e b + 1) K) l else if l ≤ p2 i a e b then rAt f b (p1 i a + 1) (ways f r (p2 i a e b + 1) K) l else rAt f r (p2 i a e b + 1) K l
theorem rAt_head (f : Str → St) : ∀ (b : Blk) (i : Nat) (K : List (List Nat)), rAt f b i K i = ways f b i K
  | nil, _, _ => rfl
  | leaf s r, i, K => if_pos rfl
  | iff t a e b r, i, K => if_pos rfl
theorem rAt_end (f : Str → St) : ∀ (b : Blk) (i : Nat) (K : List (List Nat)), rAt f b i K (i + b.size) = K
  | nil, _, _ => rfl
  | leaf s r, i, K => by
    have z : (leaf s r).size = r.size + 1 := rfl
    have h := rAt_end f r (i + 1) K
    show (if i + (leaf s r).size = i then _ else rAt f r (i + 1) K (i + (leaf s r).size)) = K
    rw [if_neg (by omega), z, show i + (r.size + 1) = i + 1 + r.size by omega]
    exact h
  | iff t a e b r, i, K => by
    have h := rAt_end f r (p2 i a e b + 1) K
    have e2 : i + (iff t a e b r).size = p2 i a e b + 1 + r.size := by
      cases e with
      | true =>
        show i + (a.size + (b.size + 1) + r.size + 2) = i + 1 + a.size + 1 + b.size + 1 + r.size
        omega
      | false =>
        show i + (a.size + 0 + r.size + 2) = i + 1 + a.size + 1 + r.size
        omega
    have e3 : p1 i a ≤ p2 i a e b := by
      cases e with
      | true => show p1 i a ≤ p1 i a + 1 + b.size; omega
      | false => exact Nat.le_refl _
    have e4 : i < p1 i a := by unfold p1; omega
    show (if i + (iff t a e b r).size = i then _ else if i + (iff t a e b r).size ≤ p1 i a then _ else if i + (iff t a e b r).size ≤ p2 i a e b then _ else rAt f r (p2 i a e b + 1) K (i + (iff t a e b r).size)) = K
    rw [if_neg (by omega), if_neg (by omega), if_neg (by omega), e2]
    exact h
/-- what is asked of a place -/
structure EqAt (sts : List St) (tg : List V) (n : Nat) (R : Nat → List (List Nat)) (l : Nat) : Prop where
  els : sts[l]? = some .els → ∃ t : Nat, tg[l]? = some (.int ((t + 1 : Nat) : Int)) ∧ l < t ∧ t ≤ n ∧ R l = R t
  fin : ∀ x, sts[l]? = some (.fin x) → R l = [[l + 1]]
  nd : sts[l]? = some .nd → R l = R (l + 1)
  set : ∀ n sm sg k, sts[l]? = some (.set n sm sg k) → R l = (R (l + 1)).map ((l + 1) :: ·)
  iff : ∀ c, sts[l]? = some (.iff c) → ∃ t : Nat, tg[l]? = some (.int ((t + 1 : Nat) : Int)) ∧ l < t ∧ t ≤ n ∧ R l = (R (l + 1)).map ((l + 1) :: ·) ++ (R t).map ((l + 1) :: ·)
theorem eqs (f : Str → St) (g : Str → PyData) {sts : List St} {tg : List V} {n : Nat} {R : Nat → List (List Nat)} : ∀ (b : Blk) (i : Nat) (K : List (List Nat)), Plain f b → (∀ l, i ≤ l → l ≤ i + b.size → R l = rAt f b i K l) → (∀ j, j < b.size → sts[i + j]? = (b.steps f g)[j]?) → TgOk b i tg → i + b.size ≤ n →
    ∀ l, i ≤ l → l < i + b.size → EqAt sts tg n R l
  | nil, i, K, _, _, _, _, _, l, h1, h2 => by
    have z : nil.size = 0 := rfl
    omega
  | leaf s r, i, K, hp, hR, hs, ht, hn, l, h1, h2 => by
    have z : (leaf s r).size = r.size + 1 := rfl
    obtain ⟨q1, q2, q3, q4⟩ := hp
    have hr : ∀ l, i + 1 ≤ l → l ≤ i + 1 + r.size → R l = rAt f r (i + 1) K l := fun l a1 a2 => by
      rw [hR l (by omega) (by omega)]
      exact if_neg (by omega)
    by_cases hl : l = i
    · subst hl
      have est : sts[l]? = some (f s) := hs 0 (by omega)
      have eR : R l = if isFin (f s) = true then [[l + 1]] else (R (l + 1)).map ((l + 1) :: ·) := by
        rw [hR l (Nat.le_refl _) (by omega), hr (l + 1) (Nat.le_refl _) (by omega), rAt_head, rAt_head]
        rfl
      refine ⟨fun e => ?_, fun x e => ?_, fun e => ?_, fun n sm sg k e => ?_, fun c e => ?_⟩
      · rw [est] at e
        exact absurd (Option.some.inj e) q2
      · rw [est] at e
        rw [eR, Option.some.inj e]
        rfl
      · rw [est] at e
        exact absurd (Option.some.inj e) q3
      · rw [est] at e
        rw [eR, Option.some.inj e]
        rfl
      · rw [est] at e
        exact absurd (Option.some.inj e) (q1 c)
    · exact eqs f g r (i + 1) K q4 hr (fun j hj => by
        have := hs (j + 1) (by omega)
        rw [show i + (j + 1) = i + 1 + j by omega] at this
        exact this) ht (by omega) l (by omega) (by omega)
  | iff t a e b r, i, K, hp, hR, hs, ht, hn, l, h1, h2 => by
    obtain ⟨q1, q2, q3⟩ := hp
    obtain ⟨t1, t2, t3, t4, t5⟩ := ht
    have e1 : p1 i a = i + 1 + a.size := rfl
    have hlen : (iff t a e b r).size = p2 i a e b - i + 1 + r.size := by
      cases e with
      | true =>
        show a.size + (b.size + 1) + r.size + 2 = (i + 1 + a.size + 1 + b.size) - i + 1 + r.size
        omega
      | false =>
        show a.size + 0 + r.size + 2 = (i + 1 + a.size) - i + 1 + r.size
        omega
    have e3 : p1 i a ≤ p2 i a e b := by
      cases e with
      | true => show p1 i a ≤ p1 i a + 1 + b.size; omega
      | false => exact Nat.le_refl _
    obtain ⟨Kr, hKr⟩ : ∃ Kr, Kr = ways f r (p2 i a e b + 1) K := ⟨_, rfl⟩
    have hr : ∀ l, p2 i a e b + 1 ≤ l → l ≤ p2 i a e b + 1 + r.size → R l = rAt f r (p2 i a e b + 1) K l := fun l a1 a2 => by
      rw [hR l (by omega) (by omega)]
      show (if l = i then _ else if l ≤ p1 i a then _ else if l ≤ p2 i a e b then _ else rAt f r (p2 i a e b + 1) K l) = _
      rw [if_neg (by omega), if_neg (by omega), if_neg (by omega)]
    have ha : ∀ l, i + 1 ≤ l → l ≤ i + 1 + a.size → R l = rAt f a (i + 1) Kr l := fun l a1 a2 => by
      rw [hR l (by omega) (by omega), hKr]
      show (if l = i then _ else if l ≤ p1 i a then rAt f a (i + 1) (ways f r (p2 i a e b + 1) K) l else _) = _
      rw [if_neg (by omega), if_pos (by omega)]
    have hb : e = true → ∀ l, p1 i a + 1 ≤ l → l ≤ p1 i a + 1 + b.size → R l = rAt f b (p1 i a + 1) Kr l := fun he l a1 a2 => by
      have e2 : p2 i a e b = p1 i a + 1 + b.size := by rw [he]; rfl
      rw [hR l (by omega) (by omega), hKr]
      show (if l = i then _ else if l ≤ p1 i a then _ else if l ≤ p2 i a e b then rAt f b (p1 i a + 1) (ways f r (p2 i a e b + 1) K) l else _) = _
      rw [if_neg (by omega), if_neg (by omega), if_pos (by omega)]
    have Rr : R (p2 i a e b + 1) = Kr := by
      rw [hr _ (Nat.le_refl _) (by omega), rAt_head, hKr]
    have Ra : R (i + 1) = ways f a (i + 1) Kr := by
      rw [ha _ (Nat.le_refl _) (by omega), rAt_head]
    have Rae : R (p1 i a) = Kr := by
      rw [ha _ (by omega) (by omega)]
      exact rAt_end f a (i + 1) Kr
    have Ri : R i = (ways f a (i + 1) Kr).map ((i + 1) :: ·) ++ (if e = true then ways f b (p1 i a + 1) Kr else Kr).map ((i + 1) :: ·) := by
      rw [hR i (Nat.le_refl _) (by omega), rAt_head, hKr]
      rfl
    have st0 : sts[i]? = some (.iff (g t)) := hs 0 (by omega)
    have stA : ∀ j, j < a.size → sts[i + 1 + j]? = (a.steps f g)[j]? := fun j hj => by
      have h := hs (j + 1) (by omega)
      rw [show i + (j + 1) = i + 1 + j by omega] at h
      rw [h]
      show (a.steps f g ++ _)[j]? = _
      rw [List.getElem?_append_left (by rw [size_steps]; exact hj)]
    have hlast : ∀ (X : List St), (∀ j, p1 i a - i + j < (iff t a e b r).size → sts[p1 i a + j]? = X[j]?) → X = (if e = true then St.els :: b.steps f g else []) ++ St.nd :: r.steps f g → (e = true → sts[p1 i a]? = some .els ∧ (∀ j, j < b.size → sts[p1 i a + 1 + j]? = (b.steps f g)[j]?)) ∧ sts[p2 i a e b]? = some .nd ∧ (∀ j, j < r.size → sts[p2 i a e b + 1 + j]? = (r.steps f g)[j]?) := fun X hX eX => by
      cases e with
      | true =>
        have e2 : p2 i a true b = p1 i a + 1 + b.size := rfl
        have eX' : X = St.els :: (b.steps f g ++ St.nd :: r.steps f g) := eX
        refine ⟨fun _ => ⟨?_, fun j hj => ?_⟩, ?_, fun j hj => ?_⟩
        · rw [show p1 i a = p1 i a + 0 from rfl, hX 0 (by omega), eX']
          rfl
        · rw [show p1 i a + 1 + j = p1 i a + (j + 1) by omega, hX (j + 1) (by omega), eX', List.getElem?_cons_succ, List.getElem?_append_left (by rw [size_steps]; exact hj)]
        · rw [e2, show p1 i a + 1 + b.size = p1 i a + (b.size + 1) by omega, hX _ (by omega), eX', List.getElem?_cons_succ, List.getElem?_append_right (by rw [size_steps]; exact Nat.le_refl _), size_steps, Nat.sub_self]
          rfl
        · rw [e2, show p1 i a + 1 + b.size + 1 + j = p1 i a + (b.size + (j + 1) + 1) by omega, hX _ (by omega), eX', List.getElem?_cons_succ, List.getElem?_append_right (by rw [size_steps]; omega), size_steps, show b.size + (j + 1) - b.size = j + 1 by omega]
          rfl
      | false =>
        have e2 : p2 i a false b = p1 i a := rfl
        have eX' : X = St.nd :: r.steps f g := eX
        refine ⟨(fun z => nomatch z), ?_, fun j hj => ?_⟩
        · rw [e2, show p1 i a = p1 i a + 0 from rfl, hX 0 (by omega), eX']
          rfl
        · rw [e2, show p1 i a + 1 + j = p1 i a + (j + 1) by omega, hX _ (by omega), eX']
          rfl
    obtain ⟨sb, se, sr⟩ := hlast ((if e = true then St.els :: b.steps f g else []) ++ St.nd :: r.steps f g) (fun j hj => by
      have h := hs (p1 i a - i + j) (by omega)
      rw [show i + (p1 i a - i + j) = p1 i a + j by omega] at h
      rw [h, show p1 i a - i + j = (a.size + j) + 1 by omega]
      show (a.steps f g ++ _)[a.size + j]? = _
      rw [List.getElem?_append_right (by rw [size_steps]; omega), size_steps, show a.size + j - a.size = j by omega]) rfl
    by_cases c0 : l = i
    · subst c0
      refine ⟨fun z => ?_, fun x z => ?_, fun z => ?_, fun n sm sg k z => ?_, fun c z => ?_⟩
      · rw [st0] at z; cases z
      · rw [st0] at z; cases z
      · rw [st0] at z; cases z
      · rw [st0] at z; cases z
      · refine ⟨p1 l a + 1, t1, by omega, by omega, ?_⟩
        rw [Ri, Ra]
        congr 1
        cases e with
        | true =>
          have hb1 := hb rfl (p1 l a + 1) (Nat.le_refl _) (by omega)
          rw [hb1, rAt_head]
          rfl
        | false =>
          have : R (p1 l a + 1) = Kr := Rr
          rw [this]
          rfl
    by_cases c1 : l < p1 i a
    · exact eqs f g a (i + 1) Kr q1 ha stA t3 (by omega) l (by omega) (by omega)
    by_cases c2 : p2 i a e b < l
    · exact eqs f g r (p2 i a e b + 1) K q3 hr sr t5 (by omega) l (by omega) (by omega)
    have ndc : l = p2 i a e b → EqAt sts tg n R l := fun hl => by
      have est : sts[l]? = some .nd := by rw [hl]; exact se
      have Rl : R (p2 i a e b) = Kr := by
        cases e with
        | true =>
          rw [hb rfl _ (by show p1 i a + 1 ≤ p1 i a + 1 + b.size; omega) (by show p1 i a + 1 + b.size ≤ _; omega)]
          exact rAt_end f b (p1 i a + 1) Kr
        | false => exact Rae
      refine ⟨fun z => ?_, fun x z => ?_, fun z => ?_, fun n sm sg k z => ?_, fun c z => ?_⟩
      · rw [est] at z; cases z
      · rw [est] at z; cases z
      · rw [hl, Rl, Rr]
      · rw [est] at z; cases z
      · rw [est] at z; cases z
    by_cases c3 : l = p2 i a e b
    · exact ndc c3
    cases e with
    | false =>
      have e2 : p2 i a false b = p1 i a := rfl
      omega
    | true =>
      have e2 : p2 i a true b = p1 i a + 1 + b.size := rfl
      obtain ⟨s1, s2⟩ := sb rfl
      by_cases c4 : l = p1 i a
      · refine ⟨fun z => ⟨p2 i a true b + 1, ?_, by omega, by omega, ?_⟩, fun x z => ?_, fun z => ?_, fun n sm sg k z => ?_, fun c z => ?_⟩
        · rw [c4]; exact t2 rfl
        · rw [c4, Rae, Rr]
        all_goals
        · rw [c4, s1] at z
          cases z
      · exact eqs f g b (p1 i a + 1) Kr (q2 rfl) (hb rfl) s2 (t4 rfl) (by omega) l (by omega) (by omega)
/-- the whole text -/
def rAll (f : Str → St) (b : Blk) (l : Nat) : List (List Nat) := if l ≤ b.size then rAt f b 0 [[]] l else [[]]
theorem runEq (f : Str → St) (g : Str → PyData) (b : Blk) (hp : Plain f b) : RunEq (b.steps f g) (b.setT 0 (List.replicate b.size V.non)) (rAll f b) := by
  have hR : ∀ l, 0 ≤ l → l ≤ 0 + b.size → rAll f b l = rAt f b 0 [[]] l := fun l _ h => if_pos (by omega)
  have E := eqs f g (sts := b.steps f g) (tg := b.setT 0 (List.replicate b.size V.non)) (n := b.size) b 0 [[]] hp hR (fun j _ => by rw [Nat.zero_add]) (setT_ok b 0 _ (by rw [List.length_replicate]; omega)) (by omega)
  have inn : ∀ {l : Nat} {x : St}, (b.steps f g)[l]? = some x → l < 0 + b.size := fun {l x} h => by
    have := (List.getElem?_eq_some_iff.mp h).1
    rw [size_steps] at this
    omega
  refine ⟨fun l h => ?_, fun l h => ?_, fun l x h => (E l (Nat.zero_le _) (inn h)).fin x h, fun l h => (E l (Nat.zero_le _) (inn h)).nd h, fun l n sm sg k h => (E l (Nat.zero_le _) (inn h)).set n sm sg k h, fun l c h => ?_⟩
  · rw [size_steps] at h
    unfold rAll
    by_cases e : l ≤ b.size
    · rw [if_pos e]
      have e2 : l = 0 + b.size := by omega
      rw [e2]
      exact rAt_end f b 0 [[]]
    · rw [if_neg e]
  · rw [size_steps]
    exact (E l (Nat.zero_le _) (inn h)).els h
  · rw [size_steps]
    exact (E l (Nat.zero_le _) (inn h)).iff c h
theorem rAll_zero (f : Str → St) (b : Blk) : rAll f b 0 = ways f b 0 [[]] := by
  unfold rAll
  rw [if_pos (Nat.zero_le _)]
  exact rAt_head f b 0 [[]]
theorem tg_all (f : Str → St) (g : Str → PyData) (b : Blk) (hp : Plain f b) : tgM (b.steps f g) = some (b.setT 0 (List.replicate b.size V.non)) := by
  unfold tgM
  have h := tg_steps f g b hp [] 0 (List.replicate (b.steps f g).length V.non) []
  rw [List.append_nil] at h
  rw [h, size_steps]
  rfl
theorem ways_len (f : Str → St) : ∀ (b : Blk) (i : Nat) (K : List (List Nat)), 1 ≤ K.length → 1 ≤ (ways f b i K).length ∧ (ways f b i K).length ≤ 2 ^ b.ifs * K.length
  | nil, _, K, h => ⟨h, by show K.length ≤ 2 ^ 0 * K.length; omega⟩
  | leaf s r, i, K, h => by
    obtain ⟨h1, h2⟩ := ways_len f r (i + 1) K h
    show 1 ≤ (if isFin (f s) = true then [[i + 1]] else (ways f r (i + 1) K).map ((i + 1) :: ·)).length ∧ (if isFin (f s) = true then [[i + 1]] else (ways f r (i + 1) K).map ((i + 1) :: ·)).length ≤ 2 ^ r.ifs * K.length
    by_cases e : isFin (f s) = true
    · rw [if_pos e]
      exact ⟨Nat.le_refl _, by
        show 1 ≤ _
        omega⟩
    · rw [if_neg e, List.length_map]
      exact ⟨h1, h2⟩
  | iff t a e b r, i, K, h => by
    obtain ⟨h1, h2⟩ := ways_len f r (p2 i a e b + 1) K h
    obtain ⟨h3, h4⟩ := ways_len f a (i + 1) (ways f r (p2 i a e b + 1) K) h1
    obtain ⟨h5, h6⟩ := ways_len f b (p1 i a + 1) (ways f r (p2 i a e b + 1) K) h1
    have hm : ∀ x y : Nat, x ≤ y → ∀ z, 2 ^ x * z ≤ 2 ^ y * z := fun x y hxy z => Nat.mul_le_mul_right z (Nat.pow_le_pow_right (by decide) hxy)
    have key : ∀ X : List (List Nat), X.length ≤ 2 ^ (if e = true then b.ifs else 0) * (ways f r (p2 i a e b + 1) K).length → ((ways f a (i + 1) (ways f r (p2 i a e b + 1) K)).map ((i + 1) :: ·) ++ X.map ((i + 1) :: ·)).length ≤ 2 ^ (iff t a e b r).ifs * K.length := fun X hX => by
      rw [List.length_append, List.length_map, List.length_map]
      have hi : (iff t a e b r).ifs = a.ifs + (if e = true then b.ifs else 0) + r.ifs + 1 := rfl
      obtain ⟨u, hu⟩ : ∃ u, u = (if e = true then b.ifs else 0) := ⟨_, rfl⟩
      rw [← hu] at hX hi
      have a1 : (ways f a (i + 1) (ways f r (p2 i a e b + 1) K)).length ≤ 2 ^ (a.ifs + u) * (ways f r (p2 i a e b + 1) K).length := Nat.le_trans h4 (hm _ _ (by omega) _)
      have a2 : X.length ≤ 2 ^ (a.ifs + u) * (ways f r (p2 i a e b + 1) K).length := Nat.le_trans hX (hm _ _ (by omega) _)
      have a3 : 2 ^ (a.ifs + u) * (ways f r (p2 i a e b + 1) K).length ≤ 2 ^ (a.ifs + u) * (2 ^ r.ifs * K.length) := Nat.mul_le_mul_left _ h2
      have a4 : 2 ^ (iff t a e b r).ifs * K.length = 2 * (2 ^ (a.ifs + u) * (2 ^ r.ifs * K.length)) := by
        rw [hi, Nat.pow_succ, Nat.pow_add, ← Nat.mul_assoc (2 ^ (a.ifs + u)), Nat.mul_comm _ 2, Nat.mul_assoc 2]
      omega
    show 1 ≤ ((ways f a (i + 1) (ways f r (p2 i a e b + 1) K)).map ((i + 1) :: ·) ++ (if e = true then ways f b (p1 i a + 1) (ways f r (p2 i a e b + 1) K) else ways f r (p2 i a e b + 1) K).map ((i + 1) :: ·)).length ∧ _
    refine ⟨by rw [List.length_append, List.length_map]; omega, key _ ?_⟩
    cases e with
    | true => exact h6
    | false => show _ ≤ 2 ^ 0 * _; rw [Nat.pow_zero, Nat.one_mul]; exact Nat.le_refl _
end Blk
end K15

set_option Elab.async false
set_option linter.all false
set_option maxRecDepth 100000
set_option maxHeartbeats 4000000
/-! Part D: the law's draws -/
namespace K15D
open PySem L2
abbrev sBag : Stmt := K15.top 61
abbrev sDraw : Stmt := K15.top 62
/-! ### the bag -/
def bagL (c : Addr) (p q r z : Int) : List (Key × V) := [(.inr "cells", .ref c), (.inr "at", .int p), (.inr "digits", .int q), (.inr "count", .int r), (.inr "fold", .int z)]
section
variable (c : Addr) (p q r z y : Int)
theorem get_cells : valV (bagL c p q r z) (.inr "cells" : Key) = some (.ref c) := by kernel_rfl
theorem get_at : valV (bagL c p q r z) (.inr "at" : Key) = some (.int p) := by kernel_rfl
theorem get_digits : valV (bagL c p q r z) (.inr "digits" : Key) = some (.int q) := by kernel_rfl
theorem get_count : valV (bagL c p q r z) (.inr "count" : Key) = some (.int r) := by kernel_rfl
theorem get_fold : valV (bagL c p q r z) (.inr "fold" : Key) = some (.int z) := by kernel_rfl
theorem put_at : putK (bagL c p q r z) (.inr "at" : Key) (.int y) = bagL c y q r z := by kernel_rfl
theorem put_digits : putK (bagL c p q r z) (.inr "digits" : Key) (.int y) = bagL c p y r z := by kernel_rfl
theorem put_count : putK (bagL c p q r z) (.inr "count" : Key) (.int y) = bagL c p q y z := by kernel_rfl
theorem put_fold : putK (bagL c p q r z) (.inr "fold" : Key) (.int y) = bagL c p q r y := by kernel_rfl
theorem bag_new : mergeK [] (bagL c p q r z) = bagL c p q r z := by kernel_rfl
end
/-- a bag stands at b, behind at most m draws -/
structure Bag (H : Hp) (b : Addr) (m : Nat) (c : Addr) (ns : List Int) (p q r z : Int) : Prop where
  at_ : H b = some (.dK (bagL c p q r z))
  cs : H c = some (.lst (ns.map V.int))
  len : ns.length ≤ 63
  p0 : 0 ≤ p
  q0 : 0 ≤ q
  r0 : 0 ≤ r
  rm : r ≤ m
  z0 : 0 ≤ z
  z1 : z < 2147483648
section
variable {H : Hp} {b : Addr} {m : Nat} {c : Addr} {ns : List Int} {p q r z : Int}
theorem Bag.g_cells (B : Bag H b m c ns p q r z) : DGet H b (.str "cells") (some (.ref c)) := by
  rw [← get_cells c p q r z]
  exact DGet.k (k := .inr "cells") B.at_
theorem Bag.g_at (B : Bag H b m c ns p q r z) : DGet H b (.str "at") (some (.int p)) := by
  rw [← get_at c p q r z]
  exact DGet.k (k := .inr "at") B.at_
theorem Bag.g_digits (B : Bag H b m c ns p q r z) : DGet H b (.str "digits") (some (.int q)) := by
  rw [← get_digits c p q r z]
  exact DGet.k (k := .inr "digits") B.at_
theorem Bag.g_count (B : Bag H b m c ns p q r z) : DGet H b (.str "count") (some (.int r)) := by
  rw [← get_count c p q r z]
  exact DGet.k (k := .inr "count") B.at_
theorem Bag.g_fold (B : Bag H b m c ns p q r z) : DGet H b (.str "fold") (some (.int z)) := by
  rw [← get_fold c p q r z]
  exact DGet.k (k := .inr "fold") B.at_
theorem few5 : (bagL c p q r z).length < sizeLine := by
  show 5 < sizeLine
  decide
theorem Bag.p_at (B : Bag H b m c ns p q r z) (y : Int) : DPut H b (.str "at") (.int y) (upd H b (.dK (bagL c y q r z))) := by
  rw [← put_at c p q r z y]
  exact DPut.k (k := .inr "at") B.at_ few5
theorem Bag.p_digits (B : Bag H b m c ns p q r z) (y : Int) : DPut H b (.str "digits") (.int y) (upd H b (.dK (bagL c p y r z))) := by
  rw [← put_digits c p q r z y]
  exact DPut.k (k := .inr "digits") B.at_ few5
theorem Bag.p_count (B : Bag H b m c ns p q r z) (y : Int) : DPut H b (.str "count") (.int y) (upd H b (.dK (bagL c p q y z))) := by
  rw [← put_count c p q r z y]
  exact DPut.k (k := .inr "count") B.at_ few5
theorem Bag.p_fold (B : Bag H b m c ns p q r z) (y : Int) : DPut H b (.str "fold") (.int y) (upd H b (.dK (bagL c p q r y))) := by
  rw [← put_fold c p q r z y]
  exact DPut.k (k := .inr "fold") B.at_ few5
end
def BagAt (c : Addr) (H : Hp) (b : Addr) (m : Nat) : Prop := ∃ ns p q r z, Bag H b m c ns p q r z
theorem BagAt.keep {c : Addr} {H H' : Hp} {b : Addr} {m : Nat} (h : BagAt c H b m) (s : Same H H') : BagAt c H' b m := by
  obtain ⟨ns, p, q, r, z, B⟩ := h
  exact ⟨ns, p, q, r, z, s _ _ B.at_, s _ _ B.cs, B.len, B.p0, B.q0, B.r0, B.rm, B.z0, B.z1⟩
theorem bag_upd {H : Hp} {b c : Addr} {m m' : Nat} {ns : List Int} {p q r z p' q' r' z' : Int} (B : Bag H b m c ns p q r z) (hp : 0 ≤ p') (hq : 0 ≤ q') (hr : 0 ≤ r') (hm : r' ≤ m') (hz : 0 ≤ z') (hz1 : z' < 2147483648) :
    Bag (upd H b (.dK (bagL c p' q' r' z'))) b m' c ns p' q' r' z' :=
  ⟨upd_same, by rw [upd_ne (ne_of B.cs B.at_ (by intro z; cases z))]; exact B.cs, B.len, hp, hq, hr, hm, hz, hz1⟩
def spBag (K : PySem.W.Frag) : Sp := fun vs H Q _ => ∃ (a : Addr) (ns : List Int), vs = [.ref a] ∧ SqL K H a (ns.map V.int) ∧ ns.length ≤ 63 ∧ ∀ (b c : Addr) (H' : Hp), Same H H' → BagAt c H' b 0 → Q (.ref b) H'
/-- all but b is kept -/
def But (b : Addr) (H H' : Hp) : Prop := ∀ x o, H x = some o → x ≠ b → H' x = some o
theorem But.refl (b : Addr) (H : Hp) : But b H H := fun _ _ h _ => h
theorem But.trans {b : Addr} {H H1 H2 : Hp} (h1 : But b H H1) (h2 : But b H1 H2) : But b H H2 := fun x o h n => h2 x o (h1 x o h n) n
theorem But.upd {b : Addr} {H H1 : Hp} {o : HO} (h1 : But b H H1) : But b H (upd H1 b o) := fun x u h n => by rw [upd_ne n]; exact h1 x u h n
def spDraw : Sp := fun vs H Q _ => ∃ (b c : Addr) (lim : Int) (m : Nat), vs = [.ref b, .int lim] ∧ BagAt c H b m ∧ m ≤ 100000 ∧ 0 < lim ∧ lim ≤ 1000000000000000 ∧
  ∀ (r : Int) (H' : Hp), 0 ≤ r → r < lim → BagAt c H' b (m + 1) → But b H H' → Q (.int r) H'
/-- the names that the module does not have -/
structure TxtB (mg : Str → Option Value) : Prop where
  len : mg "len" = none
  int : mg "int" = none
  list : mg "list" = none
  range : mg "range" = none
section
variable {P : Program} {w : World} {K : PySem.W.Frag} {mg : Str → Option Value} {base : Heap}
theorem scB : FnScope ["_law_script", "_law_fold", "_law_cell"] ["_law_script"] (defScope sBag) := ⟨rfl, rfl, rfl, by decide +kernel, rfl, by decide +kernel, by decide +kernel⟩
theorem ok_bag {f : Addr} {fd : FuncData} (F : Fun K "_law_bag" "_law_bag" sBag f fd) (T : TxtB mg) : FnOk P w K mg base CX0 1 f fd ["_law_script"] (spBag K) := by
  refine F.ok scB (fun vs H Q E h => ?_) (fun cdv A outer s H vs Q E hr h => ?_)
  · obtain ⟨a, ns, rfl, _⟩ := h
    rfl
  · obtain ⟨a, ns, rfl, hS, hlen, k⟩ := h
    have hu := hu_of hr
    refine ⟨_, pss_cons (ps_set (i := 1) scB.nd rfl (Or.inl rfl) pe_int)
      (pss_cons (ps_for PassesOwn.never rfl (pi_list (pv 0)) (pg_name (i := 2) scB.nd rfl (Or.inl rfl))
        (pss_one (ps_set (i := 1) scB.nd rfl (Or.inl rfl) (pe_op op_mod (pe_callTy call_int1 (by rfl) T.int (by decide +kernel) (pa_cons (pe_op op_add (pe_op op_mul (pv 1) pe_int) (pv 2)) pa_nil)) pe_int))))
      (pss_one (ps_ret (pe_disp (pps_cons pe_str (pe_callTy call_list_of (by rfl) T.list (by decide +kernel) (pa_cons (pv 0) pa_nil)) (pps_cons pe_str pe_int (pps_cons pe_str pe_int (pps_cons pe_str pe_int (pps_cons pe_str (pv 1) pps_nil))))) (by rfl) (by rfl) (fun z => by cases z) (by decide))))), ?_⟩
    refine ⟨_, rfl, a, rfl, ⟨_, hS⟩, for_list (K := K) (a := a) (xs := ns.map V.int) (fun i σ H2 => ∃ (z : Int) (v : Option V), σ = [some (.ref a), some (.int z), v] ∧ H2 = H ∧ 0 ≤ z ∧ z < 1000000007)
      ⟨0, none, rfl, rfl, by decide, by decide⟩ (fun i σ H2 _ ⟨_, _, _, e, _⟩ => by rw [e]; exact hS) ?_ ?_⟩
    · rintro i y σ H2 hi ⟨z, v, rfl, rfl, z0, z1⟩
      obtain ⟨n, rfl⟩ : ∃ n, y = V.int n := by
        rw [List.getElem?_map] at hi
        cases e : ns[i]? with
        | none => rw [e] at hi; cases hi
        | some n => rw [e] at hi; exact ⟨n, (Option.some.inj hi).symm⟩
      refine ⟨_, rfl, _, _, rfl, rfl, .inl ⟨by omega, by omega⟩, _, rfl, _, _, rfl, rfl, .inl ⟨_, rfl, _, _, rfl, rfl, (by show (0 : Int) < 1000000007; decide), ?_⟩⟩
      exact ⟨_, _, rfl, rfl, Int.emod_nonneg _ (by decide), Int.emod_lt_of_pos _ (by decide)⟩
    · rintro σ H2 ⟨z, v, rfl, rfl, z0, z1⟩
      intro p hp
      have s1 : Same H2 (upd H2 p (.dK [])) := fun b o e => by rw [upd_ne (ne_of_none e hp)]; exact e
      refine ⟨_, rfl, a, _, rfl, .inl (s1.seq hS), fun l hl => ?_⟩
      have npl : p ≠ l := fun e => by rw [e, upd_same] at hl; cases hl
      refine ⟨_, rfl, by rw [upd_ne npl]; exact upd_same, bagL l 0 0 0 z, rfl, by show 5 ≤ 15; decide, ?_⟩
      refine k p l _ (fun b o e => ?_) ⟨ns, 0, 0, 0, z, ?_, ?_, hlen, Int.le_refl _, Int.le_refl _, Int.le_refl _, Int.le_refl _, z0, by omega⟩
      · have bp := ne_of_none e hp
        have bl : b ≠ l := fun z => by rw [← z, upd_ne bp, e] at hl; cases hl
        rw [upd_ne bp, upd_ne bl, upd_ne bp]
        exact e
      · rw [bag_new]
        exact upd_same
      · rw [upd_ne npl.symm]
        exact upd_same
theorem scD : FnScope ["_law_bag_here", "_law_limit", "_law_cell", "_law_digit", "_law_base", "_law_found"] ["_law_bag_here", "_law_limit"] (defScope sDraw) := ⟨rfl, rfl, rfl, by decide +kernel, rfl, by decide +kernel, by decide +kernel⟩
theorem ok_draw {f : Addr} {fd : FuncData} (F : Fun K "_law_draw" "_law_draw" sDraw f fd) (T : TxtB mg) : FnOk P w K mg base CX0 1 f fd ["_law_bag_here", "_law_limit"] spDraw := by
  refine F.ok scD (fun vs H Q E h => ?_) (fun cdv A outer s H vs Q E hr h => ?_)
  · obtain ⟨b, c, lim, m, rfl, _⟩ := h
    rfl
  · obtain ⟨b, c, lim, m, rfl, hB, hm, h0, h1, k⟩ := h
    have hu := hu_of hr
    -- the end: a digit, or a number of the fold
    obtain ⟨t2, p2, r2⟩ : ∃ t2, PSs (cxOf CX0 P w K mg base ["_law_bag_here", "_law_limit", "_law_cell", "_law_digit", "_law_base", "_law_found"] "_law_draw" (defScope sDraw) f cdv A outer s H E).nox ((defBody sDraw).drop 2) t2 ∧
        ∀ (H1 : Hp) (v : Option V), BagAt c H1 b (m + 1) → But b H H1 → t2 { nx := fun _ H' => Q .non H', rt := Q } [some (.ref b), some (.int lim), v, none, none, none] H1 := by
      refine ⟨_, pss_cons (ps_if (pt_cmpR op_gt (pe_dget hu (pv 0) pe_str (fun _ _ => rfl)) pe_int (nomark _))
          (pss_cons (ps_set (i := 3) scD.nd rfl (Or.inl rfl) (pe_op op_mod (pe_callTy call_int1 (by rfl) T.int (by decide +kernel) (pa_cons (pe_dget hu (pv 0) pe_str (fun _ _ => rfl)) pa_nil)) (pv 1)))
          (pss_cons (ps_dput hu (pv 0) pe_str (pe_op op_fdivW (pe_dget hu (pv 0) pe_str (fun _ _ => rfl)) (pv 1)) rfl)
          (pss_one (ps_ret (pv 3))))) pss_nil)
        (pss_cons (ps_set (i := 4) scD.nd rfl (Or.inl rfl) (pe_op op_add (pe_op op_add (pe_dget hu (pv 0) pe_str (fun _ _ => rfl)) (pe_op op_mul (pe_dget hu (pv 0) pe_str (fun _ _ => rfl)) pe_int)) pe_int))
        (pss_cons (ps_set (i := 5) scD.nd rfl (Or.inl rfl) (pe_op op_fdiv (pe_callTy call_int1 (by rfl) T.int (by decide +kernel) (pa_cons (pe_op op_mod (pe_op op_pow (pv 4) pe_int) pe_int) pa_nil)) pe_int))
        (pss_one (ps_ret (pe_ifExp (pt_cmpR op_lt (pv 1) (pe_op op_pow pe_int pe_int) (nomark _)) (pe_op op_mod (pv 5) (pv 1)) (pe_op op_mod (pe_callTy call_int1 (by rfl) T.int (by decide +kernel) (pa_cons (pe_op op_pow (pv 5) pe_int) pa_nil)) (pv 1))))))), ?_⟩
      intro H1 v ⟨ns, p, q, r, z, B⟩ hk
      refine ⟨_, rfl, b, _, rfl, B.g_digits, _, _, rfl, rfl, _, rfl, ?_⟩
      refine ite2 (fun hq => ?_) (fun hq => ?_)
      · refine ⟨_, rfl, b, _, rfl, B.g_digits, .inl ⟨_, rfl, _, rfl, _, _, rfl, rfl, h0, ?_⟩⟩
        have hw : CDivW q lim := wide_div (b := 60) h0 (by
          have e : (2 : Nat) ^ 60 = 1152921504606846976 := by decide
          rw [e]
          omega) (by decide) (by decide)
        refine ⟨_, rfl, b, _, rfl, B.g_digits, _, rfl, q, lim, rfl, rfl, hw, _, rfl, b, _, rfl, B.p_digits _, _, rfl, ?_⟩
        exact k _ _ (Int.emod_nonneg _ (by omega)) (Int.emod_lt_of_pos _ h0) ⟨ns, _, _, _, _, bag_upd B B.p0 (Int.ediv_nonneg B.q0 (by omega)) B.r0 B.rm B.z0 B.z1⟩ hk.upd
      · refine ⟨_, rfl, b, _, rfl, B.g_fold, _, rfl, b, _, rfl, B.g_count, r, 7937, rfl, rfl, .inl ⟨by have := B.r0; omega, by have := B.rm; omega⟩, z, _, rfl, rfl, z + r * 7937, 67, rfl, rfl, ?_⟩
        have hb0 : 0 ≤ z + r * 7937 + 67 := by
          have := B.r0
          have := B.z0
          omega
        have hb1 : (z + r * 7937 + 67).natAbs < 2 ^ 64 := by
          have e : (2 : Nat) ^ 64 = 18446744073709551616 := by decide
          rw [e]
          have := B.rm
          have := B.r0
          have := B.z1
          omega
        have hl : ∀ x y : Int, 0 ≤ x % lim ∧ x % lim < lim := fun x _ => ⟨Int.emod_nonneg _ (by omega), Int.emod_lt_of_pos _ h0⟩
        refine ⟨_, rfl, _, 17, rfl, rfl, ⟨by decide, by decide, hb1⟩, _, _, rfl, rfl, (by show (0 : Int) < 2305843009213693951; decide), .inl ⟨_, rfl, _, 128, rfl, rfl, ⟨by decide, by decide⟩, ?_⟩⟩
        have f0 : 0 ≤ (z + r * 7937 + 67) ^ Int.toNat 17 % 2305843009213693951 / 128 := Int.ediv_nonneg (Int.emod_nonneg _ (by decide)) (by decide)
        have f1 : (z + r * 7937 + 67) ^ Int.toNat 17 % 2305843009213693951 / 128 < 18446744073709551616 := by
          have := Int.emod_lt_of_pos ((z + r * 7937 + 67) ^ Int.toNat 17) (show (0 : Int) < 2305843009213693951 by decide)
          omega
        have f2 : ((z + r * 7937 + 67) ^ Int.toNat 17 % 2305843009213693951 / 128).natAbs < 2 ^ 64 := by
          have e : (2 : Nat) ^ 64 = 18446744073709551616 := by decide
          rw [e]
          omega
        have B' : BagAt c H1 b (m + 1) := ⟨ns, p, q, r, z, B⟩
        refine ⟨_, rfl, 10, 15, rfl, rfl, ⟨by decide, by decide, by decide⟩, _, _, rfl, rfl, _, rfl, ?_⟩
        refine ite2 (fun _ => ?_) (fun _ => ?_)
        · exact ⟨_, rfl, _, rfl, _, _, rfl, rfl, h0, k _ _ (hl _ 0).1 (hl _ 0).2 B' hk⟩
        · exact ⟨_, rfl, _, 3, rfl, rfl, ⟨by decide, by decide, f2⟩, .inl ⟨_, rfl, _, rfl, _, _, rfl, rfl, h0, k _ _ (hl _ 0).1 (hl _ 0).2 B' hk⟩⟩
    refine ⟨_, pss_cons (ps_dput hu (pv 0) pe_str (pe_op op_add (pe_dget hu (pv 0) pe_str (fun _ _ => rfl)) pe_int) rfl)
      (pss_cons (ps_if (PW.pt (pw_and (pt_cmpR op_eq (pe_dget hu (pv 0) pe_str (fun _ _ => rfl)) pe_int (nomark _)) (pw_and1 (pt_cmpR op_lt (pe_dget hu (pv 0) pe_str (fun _ _ => rfl)) (pe_callB call_len_seq (by rfl) T.len PySem.boot_len (pa_cons (pe_dget hu (pv 0) pe_str (fun _ _ => rfl)) pa_nil)) (nomark _)))))
        (pss_cons (ps_set (i := 2) scD.nd rfl (Or.inl rfl) (pe_ix ix_list (pe_dget hu (pv 0) pe_str (fun _ _ => rfl)) (pe_dget hu (pv 0) pe_str (fun _ _ => rfl)) (fun _ _ => rfl)))
        (pss_cons (ps_dput hu (pv 0) pe_str (pe_op op_add (pe_dget hu (pv 0) pe_str (fun _ _ => rfl)) pe_int) rfl)
        (pss_one (ps_if (pt_cmpR op_ge (pv 2) (pe_op op_pow pe_int pe_int) (nomark _))
          (pss_one (ps_dput hu (pv 0) pe_str (pe_op op_sub (pv 2) (pe_op op_pow pe_int pe_int)) rfl))
          (pss_one (ps_dput hu (pv 0) pe_str (pe_op op_mod (pe_callTy call_int1 (by rfl) T.int (by decide +kernel) (pa_cons (pe_op op_add (pe_op op_mul (pe_dget hu (pv 0) pe_str (fun _ _ => rfl)) pe_int) (pv 2)) pa_nil)) pe_int) rfl))))))
        pss_nil) p2), ?_⟩
    obtain ⟨ns, p, q, r, z, B⟩ := hB
    refine ⟨_, rfl, b, _, rfl, B.g_count, r, 1, rfl, rfl, _, rfl, b, _, rfl, B.p_count _, ?_⟩
    have B1 : Bag (upd H b (.dK (bagL c p q (r + 1) z))) b (m + 1) c ns p q (r + 1) z := bag_upd B B.p0 B.q0 (by have := B.r0; omega) (by have := B.rm; omega) B.z0 B.z1
    have k1 : But b H (upd H b (.dK (bagL c p q (r + 1) z))) := (But.refl b H).upd
    refine ⟨_, rfl, b, _, rfl, B1.g_digits, rfl, _, rfl, ?_⟩
    refine ite2 (fun hq => ?_) (fun hq => ?_)
    · refine ⟨_, rfl, b, _, rfl, B1.g_at, _, rfl, b, _, rfl, B1.g_cells, c, _, rfl, .inl (SqL.of B1.cs), _, _, rfl, rfl, _, rfl, ?_⟩
      refine ite2 (fun hp => ?_) (fun hp => ?_)
      · have hp' : p < ((ns.map V.int).length : Int) := of_decide_eq_true hp
        rw [List.length_map] at hp'
        have hpn : p.toNat < ns.length := by have := B.p0; omega
        obtain ⟨cell, hcell⟩ : ∃ cell : Int, ns[p.toNat]? = some cell := ⟨_, List.getElem?_eq_getElem hpn⟩
        have hit : (ns.map V.int)[p.toNat]? = some (V.int cell) := by simp [hcell]
        have hat : atI (ns.map V.int) p = some (V.int cell) := by
          have e : p = (p.toNat : Int) := by have := B.p0; omega
          rw [e]
          exact atI_nat hit
        have B2 : Bag (upd (upd H b (.dK (bagL c p q (r + 1) z))) b (.dK (bagL c (p + 1) q (r + 1) z))) b (m + 1) c ns (p + 1) q (r + 1) z := bag_upd B1 (by have := B.p0; omega) B1.q0 B1.r0 B1.rm B1.z0 B1.z1
        refine ⟨_, rfl, b, _, rfl, B1.g_cells, _, rfl, b, _, rfl, B1.g_at, c, _, p, _, rfl, rfl, SqL.of B1.cs, hat, ?_⟩
        refine ⟨_, rfl, b, _, rfl, B1.g_at, p, 1, rfl, rfl, _, rfl, b, _, rfl, B1.p_at _, ?_⟩
        refine ⟨_, rfl, 10, 18, rfl, rfl, ⟨by decide, by decide, by decide⟩, _, _, rfl, rfl, _, rfl, ?_⟩
        refine ite2 (fun hc => ?_) (fun hc => ?_)
        · have hc' : (10 : Int) ^ Int.toNat 18 ≤ cell := of_decide_eq_true hc
          refine ⟨_, rfl, 10, 18, rfl, rfl, ⟨by decide, by decide, by decide⟩, _, _, rfl, rfl, _, rfl, b, _, rfl, B2.p_digits _, ?_⟩
          exact r2 _ _ ⟨ns, _, _, _, _, bag_upd B2 B2.p0 (by omega) B2.r0 B2.rm B2.z0 B2.z1⟩ k1.upd.upd
        · refine ⟨_, rfl, b, _, rfl, B2.g_fold, z, 69069, rfl, rfl, .inl ⟨by have := B.z0; omega, by have := B.z1; omega⟩, _, rfl, _, cell, rfl, rfl, .inl ⟨_, rfl, _, 2147483587, rfl, rfl, (by show (0 : Int) < 2147483587; decide), _, rfl, b, _, rfl, B2.p_fold _, ?_⟩⟩
          refine r2 _ _ ⟨ns, _, _, _, _, bag_upd B2 B2.p0 B2.q0 B2.r0 B2.rm (Int.emod_nonneg _ (by decide)) ?_⟩ k1.upd.upd
          have := Int.emod_lt_of_pos (z * 69069 + cell) (show (0 : Int) < 2147483587 by decide)
          omega
      · exact r2 _ none ⟨ns, p, q, _, z, B1⟩ k1
    · exact r2 _ none ⟨ns, p, q, _, z, B1⟩ k1
end
end K15D

set_option Elab.async false
set_option linter.all false
set_option maxRecDepth 100000
set_option maxHeartbeats 8000000
/-! The law: lines drawn -/
namespace K15
open PySem L2
open K15D (BagAt TxtB spDraw)
abbrev sLLines : Stmt := top 63
abbrev sLBlock : Stmt := top 64
abbrev sLWays : Stmt := top 65
abbrev sLFaults : Stmt := top 68
abbrev sLaw : Stmt := top 70
namespace Blk
def app : Blk → Blk → Blk
  | nil, y => y
  | leaf s r, y => leaf s (app r y)
  | iff t a e b r, y => iff t a e b (app r y)
theorem app_lines : ∀ x y : Blk, (x.app y).lines = x.lines ++ y.lines
  | nil, y => rfl
  | leaf s r, y => by
    show s :: (app r y).lines = s :: r.lines ++ y.lines
    rw [app_lines r y]
    rfl
  | iff t a e b r, y => by
    show t :: (a.lines ++ ((if e = true then ("else" : Str) :: b.lines else []) ++ ("end" : Str) :: (app r y).lines)) = t :: (a.lines ++ ((if e = true then ("else" : Str) :: b.lines else []) ++ ("end" : Str) :: r.lines)) ++ y.lines
    rw [app_lines r y]
    simp [List.append_assoc]
theorem app_size : ∀ x y : Blk, (x.app y).size = x.size + y.size
  | nil, y => (Nat.zero_add _).symm
  | leaf s r, y => by
    show (app r y).size + 1 = r.size + 1 + y.size
    rw [app_size r y]
    omega
  | iff t a e b r, y => by
    show a.size + (if e = true then b.size + 1 else 0) + (app r y).size + 2 = a.size + (if e = true then b.size + 1 else 0) + r.size + 2 + y.size
    rw [app_size r y]
    omega
theorem app_ifs : ∀ x y : Blk, (x.app y).ifs = x.ifs + y.ifs
  | nil, y => (Nat.zero_add _).symm
  | leaf s r, y => app_ifs r y
  | iff t a e b r, y => by
    show a.ifs + (if e = true then b.ifs else 0) + (app r y).ifs + 1 = a.ifs + (if e = true then b.ifs else 0) + r.ifs + 1 + y.ifs
    rw [app_ifs r y]
    omega
def All (F T : Str → Prop) : Blk → Prop
  | nil => True
  | leaf s r => F s ∧ All F T r
  | iff t a e b r => T t ∧ All F T a ∧ (e = true → All F T b) ∧ All F T r
theorem app_all {F T : Str → Prop} : ∀ {x y : Blk}, x.All F T → y.All F T → (x.app y).All F T
  | nil, y, _, h => h
  | leaf s r, y, ⟨a, b⟩, h => ⟨a, app_all b h⟩
  | iff t a e b r, y, ⟨h1, h2, h3, h4⟩, h => ⟨h1, h2, h3, app_all h4 h⟩
end Blk
def poolL : List Str := [("a = size own" : Str), ("b = size ahead p" : Str), ("a = b + 1" : Str), ("c = least - a" : Str), ("p = own + a" : Str), ("q = next p" : Str), ("r = prev bin" : Str), ("s = p" : Str), ("p = s - 2" : Str), ("next r = q" : Str), ("prev q = bin" : Str), ("head s = a free used" : Str), ("foot s = a" : Str), ("size own = b" : Str), ("used p" : Str), ("ahead free p" : Str), ("q = p + 3" : Str), ("a = a + b - c + 3" : Str), ("head s = a + b + 1 free used" : Str), ("next bin = s" : Str), ("b = a" : Str), ("free s~ahead used q~size p = 4~prev s = bin" : Str), ("r = q~s = next r" : Str), ("s = r - 1~r = s" : Str), ("next own = p~free p~used q~foot q = 9" : Str), ("quit" : Str), ("no" : Str), ("c = want" : Str), ("size s = want" : Str)]
def poolS : Str := (((("a = size own|b = size ahead p|a = b + 1|c = least - a|p = own + a|q = next p|r = prev bin" : Str) ++ ("|s = p|p = s - 2|next r = q|prev q = bin|head s = a free used|foot s = a" : Str)) ++ ("|size own = b|used p|ahead free p|q = p + 3|a = a + b - c + 3|head s = a + b + 1 free used" : Str)) ++ ("|next bin = s|b = a|free s~ahead used q~size p = 4~prev s = bin|r = q~s = next r|s = r - 1~r = s" : Str)) ++ ("|next own = p~free p~used q~foot q = 9|quit|no|c = want|size s = want" : Str)
def rawT : List Str := [("a < 9" : Str), ("used p" : Str), ("not ahead used own" : Str), ("used p and p is bin and used s" : Str), ("b is 0 and a <= want" : Str), ("a < 9 and b < 9 and c < 9 and p is bin" : Str), ("used p and not used q and ahead used r and used s" : Str)]
def testsL : List Str := rawT.map fun x => ("if " : Str) ++ x
def leavesL : List Str := poolL.flatMap fun x => Txt.split x "~"
theorem pool_split : Txt.split poolS "|" = poolL := by decide +kernel
theorem chunk_ok : ∀ x ∈ poolL, 1 ≤ (Txt.split x "~").length ∧ (Txt.split x "~").length ≤ 4 ∧ x.length ≤ 100 := by decide +kernel
theorem raw_ok : ∀ x ∈ rawT, x.length ≤ 100 := by decide +kernel
def Good (k : Blk) : Prop := k.All (· ∈ leavesL) (· ∈ testsL)
namespace Blk
/-- lines without ifs -/
def leafs : List Str → Blk
  | [] => nil
  | x :: r => leaf x (leafs r)
theorem leafs_lines : ∀ l : List Str, (leafs l).lines = l
  | [] => rfl
  | x :: r => by
    show x :: (leafs r).lines = _
    rw [leafs_lines r]
theorem leafs_size : ∀ l : List Str, (leafs l).size = l.length
  | [] => rfl
  | x :: r => by
    show (leafs r).size + 1 = _
    rw [leafs_size r]
    rfl
theorem leafs_ifs : ∀ l : List Str, (leafs l).ifs = 0
  | [] => rfl
  | x :: r => leafs_ifs r
theorem leafs_all {F T : Str → Prop} : ∀ l : List Str, (∀ x ∈ l, F x) → (leafs l).All F T
  | [], _ => trivial
  | x :: r, h => ⟨h x (.head _), leafs_all r fun y hy => h y (.tail _ hy)⟩
end Blk
def turnsM (deep : Nat) : Nat := if deep = 0 then 14 else 4
def intL (ls : List Int) : List V := ls.map V.int
def spLL (n : Nat) : Sp := fun vs H Q _ => ∃ (b L c : Addr) (deep m : Nat) (ls : List Int), vs = [.ref b, .int (deep : Nat), .ref L] ∧ deep + n = 2 ∧ BagAt c H b m ∧ c ≠ L ∧ m ≤ 50000 + 2000 * deep ∧ H L = some (.lst (intL ls)) ∧ ls.length ≤ 6 ∧
  ∀ (R : Addr) (H' : Hp) (k : Blk) (m' : Nat) (ls' : List Int), H R = none → H' R = some (.lst (k.lines.map V.str)) → BagAt c H' b m' → m' ≤ m + 2 + 5 * k.size → (∀ x o, H x = some o → x ≠ b → x ≠ L → H' x = some o) → H' L = some (.lst (intL ls')) → ls'.length + k.ifs = ls.length →
    k.size ≤ 4 * turnsM deep + 35 * k.ifs → Good k → Q (.ref R) H'
/-- all but two is kept -/
def Fr (b L : Addr) (G G' : Hp) : Prop := ∀ x o, G x = some o → x ≠ b → x ≠ L → G' x = some o
theorem Fr.refl (b L : Addr) (G : Hp) : Fr b L G G := fun _ _ h _ _ => h
theorem Fr.trans {b L : Addr} {A B C : Hp} (h : Fr b L A B) (k : Fr b L B C) : Fr b L A C := fun x o e n1 n2 => k x o (h x o e n1 n2) n1 n2
theorem Fr.same {b L : Addr} {G G' : Hp} (s : Same G G') : Fr b L G G' := fun x o e _ _ => s x o e
theorem Fr.but {b L : Addr} {G G' : Hp} (s : K15D.But b G G') : Fr b L G G' := fun x o e n _ => s x o e n
theorem Fr.updL {b L : Addr} {G : Hp} {o : HO} : Fr b L G (upd G L o) := fun x u e _ n => by
  rw [upd_ne n]
  exact e
theorem Fr.write {b L a : Addr} {H G : Hp} {o : HO} (f : Fr b L H G) (h : H a = none) : Fr b L H (upd G a o) := fun x u e n1 n2 => by
  rw [upd_ne (fun z => by rw [z, h] at e; cases e)]
  exact f x u e n1 n2
/-- the state between two turns -/
structure LS (H G : Hp) (b L c : Addr) (m : Nat) (ls : List Int) (i x : Nat) (F : Addr) (kk : Blk) (m' : Nat) (ls' : List Int) : Prop where
  hF : H F = none
  gF : G F = some (.lst (kk.lines.map V.str))
  bag : BagAt c G b m'
  mm : m' ≤ m + 2 + 5 * kk.size + x
  fr : Fr b L H G
  gL : G L = some (.lst (intL ls'))
  cnt : ls'.length + kk.ifs = ls.length
  siz : kk.size ≤ 4 * i + 35 * kk.ifs
  ok : Good kk
structure PoolAt (H : Hp) (P0 T0 b L : Addr) : Prop where
  p : H P0 = some (.lst (poolL.map V.str))
  t : H T0 = some (.lst (rawT.map V.str))
  pb : P0 ≠ b
  pL : P0 ≠ L
  tb : T0 ≠ b
  tL : T0 ≠ L
  l : ∃ o, H L = some o
theorem bag_there {c : Addr} {H : Hp} {b : Addr} {m : Nat} (B : BagAt c H b m) : ∃ kvs, H b = some (.dK kvs) := by
  obtain ⟨ns, p, q, r, z, B⟩ := B
  exact ⟨_, B.at_⟩
theorem good_end {t : Str} {kk a b : Blk} {e : Bool} (h : Good kk) (ht : t ∈ testsL) (ha : Good a) (hb : e = true → Good b) : Good (kk.app (.iff t a e b .nil)) := Blk.app_all h ⟨ht, ha, hb, trivial⟩
theorem lines_if (kk a : Blk) (t : Str) : (kk.app (.iff t a false .nil .nil)).lines.map V.str = (kk.lines.map V.str ++ [V.str t] ++ a.lines.map V.str) ++ [V.str "end"] := by
  rw [Blk.app_lines]
  show (kk.lines ++ (t :: (a.lines ++ ([] ++ [("end" : Str)])))).map V.str = _
  simp [List.map_append, List.append_assoc]
theorem lines_else (kk a b : Blk) (t : Str) : (kk.app (.iff t a true b .nil)).lines.map V.str = (kk.lines.map V.str ++ [V.str t] ++ a.lines.map V.str ++ [V.str "else"] ++ b.lines.map V.str) ++ [V.str "end"] := by
  rw [Blk.app_lines]
  show (kk.lines ++ (t :: (a.lines ++ ((("else" : Str) :: b.lines) ++ [("end" : Str)])))).map V.str = _
  simp [List.map_append, List.append_assoc]
theorem dpInts {K : PySem.W.Frag} {H : Hp} : ∀ ls : List Int, DpAll K H (intL ls) (ls.map PyData.int)
  | [] => .nil
  | x :: xs => .cons (.int x) (dpInts xs)
theorem layInts : ∀ ls : List Int, PyData.canLayAll0 (ls.map PyData.int) = true
  | [] => rfl
  | x :: xs => by
    rw [List.map_cons, PyData.canLayAll0, Bool.and_eq_true]
    exact ⟨by simp [PyData.canLay0], layInts xs⟩
theorem depInts : ∀ ls : List Int, PyData.depthAll (ls.map PyData.int) = 0
  | [] => rfl
  | x :: xs => by
    rw [List.map_cons]
    simp only [PyData.depthAll, PyData.depth, depInts xs]
    decide
theorem shapedInts (ls : List Int) : SeqAt.shaped (.list (ls.map PyData.int)) = true := by
  unfold SeqAt.shaped
  have h1 : (PyData.list (ls.map PyData.int)).canLay0 = true := by
    simp only [PyData.canLay0]
    exact layInts ls
  have h2 : (PyData.list (ls.map PyData.int)).depth ≤ 64 := by
    simp only [PyData.depth, depInts]
    decide
  rw [h1, decide_eq_true h2]
  rfl
section
variable {P : Program} {w : World} {K : PySem.W.Frag} {mg : Str → Option Value} {base : Heap}
abbrev nmLL : List Str := ["_law_bag_here", "_law_deep", "_law_left", "_law_pool", "_law_tests", "_law_found", "_law_least", "_law_turn"]
theorem scLL : FnScope nmLL ["_law_bag_here", "_law_deep", "_law_left"] (defScope sLLines) := ⟨rfl, rfl, rfl, by decide +kernel, rfl, by decide +kernel, by decide +kernel⟩
def forBody : Stmt → List Stmt
  | .For _ _ b _ _ => b
  | _ => []
def ifBody : Stmt → List Stmt
  | .If _ b _ _ => b
  | _ => []
def ifElse : Stmt → List Stmt
  | .If _ _ e _ => e
  | _ => []
abbrev llFor : Stmt := (defBody sLLines).getD 8 passS
abbrev llSuite : List Stmt := ifBody ((forBody llFor).getD 0 passS)
theorem ll_at {xs : List Str} {r : Int} (h0 : 0 ≤ r) (h1 : r < xs.length) : ∃ x ∈ xs, atI (xs.map V.str) r = some (.str x) := by
  obtain ⟨j, rfl⟩ : ∃ j : Nat, r = j := ⟨r.toNat, by omega⟩
  have hj : j < xs.length := by omega
  refine ⟨xs[j], List.getElem_mem hj, atI_nat ?_⟩
  rw [List.getElem?_map, List.getElem?_eq_getElem hj]
  rfl
end
end K15

set_option Elab.async false
set_option linter.all false
set_option maxRecDepth 100000
set_option maxHeartbeats 8000000
/-! The law: lines drawn, b -/
namespace K15
open PySem L2
open K15D (BagAt TxtB spDraw)
section
variable {P : Program} {w : World} {K : PySem.W.Frag} {mg : Str → Option Value} {base : Heap}
theorem ok_ll {f fD : Addr} {fd fdD : FuncData} (F : Fun K "_law_lines" "_law_lines" sLLines f fd) (T : TxtB mg)
    (GD : FnOk P w K mg base CX0 1 fD fdD ["_law_bag_here", "_law_limit"] spDraw) (kD : PySem.W.keepIn K (.ref fD) = true) (bD : Binds K fdD ["_law_bag_here", "_law_limit"] []) (gD : mg "_law_draw" = some (.ref fD))
    (gf : mg "_law_lines" = some (.ref f)) (bf : Binds K fd ["_law_bag_here", "_law_deep", "_law_left"] []) (n : Nat)
    (ihh : ∀ k, n = k + 1 → FnOk P w K mg base CX0 (k + 2) f fd ["_law_bag_here", "_law_deep", "_law_left"] (spLL k)) : FnOk P w K mg base CX0 (n + 2) f fd ["_law_bag_here", "_law_deep", "_law_left"] (spLL n) := by
  refine F.ok scLL (fun vs H Q E h => ?_) (fun cdv A outer s H vs Q E hr h => ?_)
  · obtain ⟨b, L, c, deep, m, ls, rfl, _⟩ := h
    rfl
  · obtain ⟨b, L, c, deep, m, ls, rfl, hd, hB, hcL, hm, hL, hll, k⟩ := h
    have hr1 : Room 1 _ := hr.mono (by omega)
    obtain ⟨tS, pS, rS⟩ : ∃ tS, PSs (cxOf CX0 P w K mg base nmLL "_law_lines" (defScope sLLines) f cdv A outer s H E).nox llSuite tS ∧
        ∀ (D : Ends) (H0 G : Hp) (P0 T0 : Addr) (i : Nat) (F : Addr) (kk : Blk) (m' : Nat) (ls' : List Int) (v6 v7 : Option V), PoolAt H0 P0 T0 b L → LS H0 G b L c m ls i 2 F kk m' ls' → deep < 2 → ls' ≠ [] → i ≤ 14 →
          (∀ (G : Hp) (F : Addr) (kk : Blk) (m' : Nat) (ls' : List Int) (v6 v7 : Option V), LS H0 G b L c m ls (i + 1) 0 F kk m' ls' → D.nx [some (.ref b), some (.int (deep : Nat)), some (.ref L), some (.ref P0), some (.ref T0), some (.ref F), v6, v7] G) →
          tS D [some (.ref b), some (.int (deep : Nat)), some (.ref L), some (.ref P0), some (.ref T0), some (.ref F), v6, v7] G := by
      cases n with
      | zero => exact ⟨_, PSs.ghost, fun D H0 G P0 T0 i F kk m' ls' v6 v7 _ _ z => absurd z (by omega)⟩
      | succ n =>
      have ih := ihh n rfl
      have hrn : Room (n + 2) _ := hr.mono (by omega)
      refine ⟨_, pss_cons (ps_expr (pe_bm0 PySem.F.plainAttrs_list PySem.F.slot_list_pop PySem.F.type_list_pop mt_pop (pv 2)))
        (pss_cons (ps_set (i := 5) scLL.nd rfl (.inl rfl) (pe_op op_cat (pe_op op_cat (pv 5) (pe_lst (pa_cons (pe_op op_add_str pe_str (pe_ix ix_list (pv 4) (pe_call GD hr1 rfl gD kD bD .nil pass0 (pa_cons (pv 0) (pa_cons pe_int pa_nil))) (fun _ _ => rfl))) pa_nil))) (pe_call ih hrn rfl gf F.kp bf .nil pass0 (pa_cons (pv 0) (pa_cons (pe_op op_add (pv 1) pe_int) (pa_cons (pv 2) pa_nil))))))
        (pss_cons (ps_if (pt_cmpR op_eq (pe_call GD hr1 rfl gD kD bD .nil pass0 (pa_cons (pv 0) (pa_cons pe_int pa_nil))) pe_int (nomark _))
          (pss_one (ps_set (i := 5) scLL.nd rfl (.inl rfl) (pe_op op_cat (pe_op op_cat (pv 5) (pe_lst (pa_cons pe_str pa_nil))) (pe_call ih hrn rfl gf F.kp bf .nil pass0 (pa_cons (pv 0) (pa_cons (pe_op op_add (pv 1) pe_int) (pa_cons (pv 2) pa_nil))))))) pss_nil)
        (pss_one (ps_expr (pe_bm PySem.F.plainAttrs_list PySem.F.slot_list_append PySem.F.type_list_append mt_append (pv 5) (pa_cons pe_str pa_nil)))))), ?_⟩
      intro D H0 G P0 T0 i F kk m' ls' v6 v7 PA S hdeep hne hi8 hnx
      have hcnt := S.cnt
      have hsiz := S.siz
      have hmm := S.mm
      have hlsp : 0 < ls'.length := List.length_pos_iff.mpr hne
      have hks : kk.size ≤ 300 := by omega
      have hkl : (kk.lines.map V.str).length = kk.size := by rw [List.length_map, Blk.size_lines]
      obtain ⟨kvb, eb⟩ := bag_there S.bag
      have bL : b ≠ L := ne_of eb S.gL (by intro z; cases z)
      have FL : F ≠ L := fun z => by
        obtain ⟨o, hLo⟩ := PA.l
        have := S.hF
        rw [z, hLo] at this
        cases this
      have Fb : F ≠ b := ne_of S.gF eb (by intro z; cases z)
      obtain ⟨xl, hxl⟩ : ∃ xl, ls'.getLast? = some xl := by
        cases e : ls'.getLast? with
        | none => exact absurd (List.getLast?_eq_none_iff.mp e) hne
        | some x => exact ⟨x, rfl⟩
      have hlast : (intL ls')[(intL ls').length - 1]? = some (V.int xl) := by
        unfold intL
        rw [List.length_map, List.getElem?_map, ← List.getLast?_eq_getElem?, hxl]
        rfl
      refine ⟨_, rfl, .inl ⟨rfl, _, SqL.of S.gL⟩, L, _, _, rfl, rfl, S.gL, hlast, ?_⟩
      have hdl : (intL ls').dropLast = intL ls'.dropLast := by
        unfold intL
        rw [List.map_dropLast]
      rw [hdl]
      obtain ⟨G1, hG1⟩ : ∃ G1, G1 = upd G L (.lst (intL ls'.dropLast)) := ⟨_, rfl⟩
      rw [← hG1]
      have gL1 : G1 L = some (.lst (intL ls'.dropLast)) := by rw [hG1]; exact upd_same
      have f1 : Fr b L G G1 := by rw [hG1]; exact Fr.updL
      have B1 : BagAt c G1 b m' := by
        obtain ⟨ns, p, q, r, z, B⟩ := S.bag
        rw [hG1]
        exact ⟨ns, p, q, r, z, by rw [upd_ne bL]; exact B.at_, by rw [upd_ne hcL]; exact B.cs, B.len, B.p0, B.q0, B.r0, B.rm, B.z0, B.z1⟩
      have gF1 : G1 F = some (.lst (kk.lines.map V.str)) := by rw [hG1, upd_ne FL]; exact S.gF
      -- the test
      refine ⟨_, rfl, _, rfl, _, rfl, b, c, 7, m', rfl, B1, by omega, by decide, by decide, fun r H2 r0 r1 B2 k2 => ?_⟩
      obtain ⟨raw, hraw, hat⟩ := ll_at (xs := rawT) r0 r1
      have f2 : Fr b L G1 H2 := Fr.but k2
      have gT2 : H2 T0 = some (.lst (rawT.map V.str)) := (S.fr.trans (f1.trans f2)) _ _ PA.t PA.tb PA.tL
      have hrl := raw_ok raw hraw
      have z3 : ("if " : Str).length = 3 := by decide +kernel
      refine ⟨T0, _, r, _, rfl, rfl, SqL.of gT2, hat, _, _, rfl, rfl, (by show ("if " : Str).length + raw.length ≤ sizeLine; exact Nat.le_of_lt (small1000 (by omega))), ?_⟩
      obtain ⟨tt, htt0⟩ : ∃ tt : Str, tt = ("if " : Str) ++ raw := ⟨_, rfl⟩
      have htt : tt ∈ testsL := by
        rw [htt0]
        exact List.mem_map.mpr ⟨raw, hraw, rfl⟩
      refine ⟨(by show 1 ≤ sizeLine; decide), fun l1 n1 => ?_⟩
      rw [show (("if " : Str) ++ raw) = tt from htt0.symm]
      have gL2 : H2 L = some (.lst (intL ls'.dropLast)) := k2 _ _ gL1 bL.symm
      have gF2 : H2 F = some (.lst (kk.lines.map V.str)) := f2 _ _ gF1 Fb FL
      have s3 := Same.new (o := .lst [V.str tt]) n1
      have cap : ∀ x : Nat, x ≤ 900 → x ≤ sizeLine := fun x hx => Nat.le_of_lt (small1000 (by omega))
      refine ⟨F, l1, _, _, rfl, rfl, s3 _ _ gF2, upd_same, cap _ (by rw [hkl]; show kk.size + 1 ≤ 900; omega), fun p1 np1 => ?_⟩
      have s4 := Same.new (o := .lst (kk.lines.map V.str ++ [V.str tt])) np1
      obtain ⟨kvb2, eb2⟩ := bag_there B2
      have p1b : p1 ≠ b := (ne_of_none (s3 _ _ eb2) np1).symm
      have p1L : p1 ≠ L := (ne_of_none (s3 _ _ gL2) np1).symm
      have f4 := f1.trans (f2.trans ((Fr.same s3).trans (Fr.same s4)))
      have hdlen : ls'.dropLast.length = ls'.length - 1 := List.length_dropLast
      refine ⟨_, rfl, _, rfl, _, _, rfl, rfl, _, rfl, b, L, c, deep + 1, m' + 1, ls'.dropLast, rfl, by omega, (B2.keep s3).keep s4, hcL, by omega, s4 _ _ (s3 _ _ gL2), by omega, fun R H5 ka ma lsa nR gR Ba hma fa gLa hca hsa hga => ?_⟩
      have hta : turnsM (deep + 1) = 4 := if_neg (by omega)
      rw [hta] at hsa
      have gP5 : H5 p1 = some (.lst (kk.lines.map V.str ++ [V.str tt])) := fa _ _ upd_same p1b p1L
      have hkal : (ka.lines.map V.str).length = ka.size := by rw [List.length_map, Blk.size_lines]
      refine ⟨p1, R, _, _, rfl, rfl, gP5, gR, cap _ (by rw [List.length_append, hkl, hkal]; show kk.size + 1 + ka.size ≤ 900; omega), fun p2 np2 => ?_⟩
      have s6 := Same.new (o := .lst (kk.lines.map V.str ++ [V.str tt] ++ ka.lines.map V.str)) np2
      obtain ⟨kvb5, eb5⟩ := bag_there Ba
      have p2b : p2 ≠ b := (ne_of_none eb5 np2).symm
      have p2L : p2 ≠ L := (ne_of_none gLa np2).symm
      have f6 : Fr b L G _ := f4.trans (Fr.trans fa (Fr.same s6))
      have HF6 : Fr b L H0 _ := S.fr.trans f6
      -- an else
      refine ⟨_, rfl, b, c, 2, ma, rfl, Ba.keep s6, by omega, by decide, by decide, fun r2 H7 r20 r21 B7 k7 => ?_⟩
      have f7 := f6.trans (Fr.but k7)
      have gL7 := k7 _ _ (s6 _ _ gLa) bL.symm
      have gP7 := k7 _ _ (upd_same (a := p2)) p2b
      have np2H : H0 p2 = none := by
        cases e : H0 p2 with
        | none => rfl
        | some o =>
          have z := (S.fr.trans (f4.trans fa)) _ _ e p2b p2L
          rw [np2] at z
          cases z
      refine ⟨rfl, _, rfl, ?_⟩
      refine ite2 (fun h2 => ?_) (fun h2 => ?_)
      · refine ⟨_, rfl, (by show 1 ≤ sizeLine; decide), fun l8 n8 => ?_⟩
        have s8 := Same.new (o := .lst [V.str "else"]) n8
        refine ⟨p2, l8, _, _, rfl, rfl, s8 _ _ gP7, upd_same, cap _ (by rw [List.length_append, List.length_append, hkl, hkal]; show kk.size + 1 + ka.size + 1 ≤ 900; omega), fun p3 np3 => ?_⟩
        have s9 := Same.new (o := .lst (kk.lines.map V.str ++ [V.str tt] ++ ka.lines.map V.str ++ [V.str "else"])) np3
        obtain ⟨kvb7, eb7⟩ := bag_there B7
        have p3b : p3 ≠ b := (ne_of_none (s8 _ _ eb7) np3).symm
        have p3L : p3 ≠ L := (ne_of_none (s8 _ _ gL7) np3).symm
        refine ⟨_, rfl, _, rfl, _, _, rfl, rfl, _, rfl, b, L, c, deep + 1, ma + 1, lsa, rfl, by omega, (B7.keep s8).keep s9, hcL, by omega, s9 _ _ (s8 _ _ gL7), by omega, fun R2 H10 kb mb lsb nR2 gR2 Bb hmb fb gLb hcb hsb hgb => ?_⟩
        rw [hta] at hsb
        have gP10 : H10 p3 = some (.lst (kk.lines.map V.str ++ [V.str tt] ++ ka.lines.map V.str ++ [V.str "else"])) := fb _ _ upd_same p3b p3L
        have hkbl : (kb.lines.map V.str).length = kb.size := by rw [List.length_map, Blk.size_lines]
        refine ⟨p3, R2, _, _, rfl, rfl, gP10, gR2, cap _ (by rw [List.length_append, List.length_append, List.length_append, hkl, hkal, hkbl]; show kk.size + 1 + ka.size + 1 + kb.size ≤ 900; omega), fun p4 np4 => ?_⟩
        have s11 := Same.new (o := .lst (kk.lines.map V.str ++ [V.str tt] ++ ka.lines.map V.str ++ [V.str "else"] ++ kb.lines.map V.str)) np4
        obtain ⟨kvb10, eb10⟩ := bag_there Bb
        have p4b : p4 ≠ b := (ne_of_none eb10 np4).symm
        have p4L : p4 ≠ L := (ne_of_none gLb np4).symm
        have f11 := (S.fr.trans f7).trans ((Fr.same s8).trans ((Fr.same s9).trans fb))
        have np4H : H0 p4 = none := by
          cases e : H0 p4 with
          | none => rfl
          | some o =>
            have z := f11 _ _ e p4b p4L
            rw [np4] at z
            cases z
        refine ⟨_, rfl, .inl ⟨rfl, _, SqL.of upd_same⟩, p4, _, _, rfl, rfl, upd_same, small1000 (by rw [List.length_append, List.length_append, List.length_append, List.length_append, hkl, hkal, hkbl]; show kk.size + 1 + ka.size + 1 + kb.size ≤ 1000; omega), ?_⟩
        have e1 : (kk.app (.iff tt ka true kb .nil)).size = kk.size + (ka.size + (kb.size + 1) + 0 + 2) := Blk.app_size _ _
        have e2 : (kk.app (.iff tt ka true kb .nil)).ifs = kk.ifs + (ka.ifs + kb.ifs + 0 + 1) := Blk.app_ifs _ _
        refine hnx _ p4 (kk.app (.iff tt ka true kb .nil)) mb lsb _ _ ⟨np4H, by rw [upd_same, lines_else], ?_, ?_, Fr.write (f11.trans (Fr.same s11)) np4H, by rw [upd_ne p4L.symm]; exact s11 _ _ gLb, ?_, ?_, good_end S.ok htt hga fun _ => hgb⟩
        · obtain ⟨ns, p, q, r, z, B⟩ := Bb.keep s11
          have c4 : c ≠ p4 := by
            obtain ⟨ns, p, q, r, z, B⟩ := Bb
            exact ne_of_none B.cs np4
          exact ⟨ns, p, q, r, z, by rw [upd_ne p4b.symm]; exact B.at_, by rw [upd_ne c4]; exact B.cs, B.len, B.p0, B.q0, B.r0, B.rm, B.z0, B.z1⟩
        · rw [e1]; omega
        · rw [e2]; omega
        · rw [e1, e2]; omega
      · have e1 : (kk.app (.iff tt ka false .nil .nil)).size = kk.size + (ka.size + 0 + 0 + 2) := Blk.app_size _ _
        have e2 : (kk.app (.iff tt ka false .nil .nil)).ifs = kk.ifs + (ka.ifs + 0 + 0 + 1) := Blk.app_ifs _ _
        refine ⟨_, rfl, .inl ⟨rfl, _, SqL.of gP7⟩, p2, _, _, rfl, rfl, gP7, small1000 (by rw [List.length_append, List.length_append, hkl, hkal]; show kk.size + 1 + ka.size ≤ 1000; omega), ?_⟩
        refine hnx _ p2 (kk.app (.iff tt ka false .nil .nil)) (ma + 1) lsa _ _ ⟨np2H, by rw [upd_same, lines_if], ?_, ?_, Fr.write (S.fr.trans f7) np2H, by rw [upd_ne p2L.symm]; exact gL7, ?_, ?_, good_end S.ok htt hga fun z => nomatch z⟩
        · obtain ⟨ns, p, q, r, z, B⟩ := B7
          have c4 : c ≠ p2 := by
            obtain ⟨ns, p, q, r, z, B⟩ := Ba
            exact ne_of_none B.cs np2
          exact ⟨ns, p, q, r, z, by rw [upd_ne p2b.symm]; exact B.at_, by rw [upd_ne c4]; exact B.cs, B.len, B.p0, B.q0, B.r0, B.rm, B.z0, B.z1⟩
        · rw [e1]; omega
        · rw [e2]; omega
        · rw [e1, e2]; omega
    obtain ⟨tE, pE, rE⟩ : ∃ tE, PSs (cxOf CX0 P w K mg base nmLL "_law_lines" (defScope sLLines) f cdv A outer s H E).nox (ifElse ((forBody llFor).getD 0 passS)) tE ∧
        ∀ (D : Ends) (H0 G : Hp) (P0 T0 : Addr) (i : Nat) (F : Addr) (kk : Blk) (m' : Nat) (ls' : List Int) (v6 v7 : Option V), PoolAt H0 P0 T0 b L → LS H0 G b L c m ls i 2 F kk m' ls' → i ≤ 14 → ls'.length ≤ 6 →
          (∀ (G : Hp) (F : Addr) (kk : Blk) (m' : Nat) (ls' : List Int) (v6 v7 : Option V), LS H0 G b L c m ls (i + 1) 0 F kk m' ls' → D.nx [some (.ref b), some (.int (deep : Nat)), some (.ref L), some (.ref P0), some (.ref T0), some (.ref F), v6, v7] G) →
          tE D [some (.ref b), some (.int (deep : Nat)), some (.ref L), some (.ref P0), some (.ref T0), some (.ref F), v6, v7] G := by
      refine ⟨_, pss_one (ps_set (i := 5) scLL.nd rfl (.inl rfl) (pe_op op_cat (pv 5) (pe_split (pe_ix ix_list (pv 3) (pe_call GD hr1 rfl gD kD bD .nil pass0 (pa_cons (pv 0) (pa_cons (pe_op op_sub pe_int (pe_op op_mul pe_int (pe_callTy call_int1 (by rfl) T.int (by decide +kernel) (pa_cons (pe_cmpR op_gt (pe_call GD hr1 rfl gD kD bD .nil pass0 (pa_cons (pv 0) (pa_cons pe_int pa_nil))) pe_int (nomark _)) pa_nil)))) pa_nil))) (fun _ _ => rfl)) pe_str))), ?_⟩
      intro D H0 G P0 T0 i F kk m' ls' v6 v7 PA S hi8 hl6 hnx
      have hcnt := S.cnt
      have hsiz := S.siz
      have hmm := S.mm
      have hks : kk.size ≤ 300 := by omega
      have hkl : (kk.lines.map V.str).length = kk.size := by rw [List.length_map, Blk.size_lines]
      obtain ⟨kvb, eb1⟩ := bag_there S.bag
      have bL : b ≠ L := ne_of eb1 S.gL (by intro z; cases z)
      have Fb : F ≠ b := ne_of S.gF eb1 (by intro z; cases z)
      have FL : F ≠ L := fun z => by
        obtain ⟨o, hLo⟩ := PA.l
        have := S.hF
        rw [z, hLo] at this
        cases this
      refine ⟨_, rfl, _, rfl, _, rfl, _, rfl, b, c, 3, m', rfl, S.bag, by omega, by decide, by decide, fun r1 H1 r10 r11 B1 k1 => ?_⟩
      obtain ⟨e1, he1⟩ : ∃ e1 : Int, e1 = (if decide ((0 : Int) < r1) = true then 1 else 0) := ⟨_, rfl⟩
      have he01 : 0 ≤ e1 ∧ e1 ≤ 1 := by
        rw [he1]
        split <;> decide
      refine ⟨_, _, rfl, rfl, .inr ⟨_, rfl, ?_⟩⟩
      rw [← he1]
      refine ⟨_, _, rfl, rfl, .inl ⟨by decide, by omega⟩, _, _, rfl, rfl, b, c, 29 - 4 * e1, m' + 1, rfl, B1, by omega, by omega, by omega, fun r2 H2 r20 r21 B2 k2 => ?_⟩
      have hz102 : 102 ≤ sizeLine := by decide
      have hpl : poolL.length = 29 := rfl
      obtain ⟨chunk, hch, hat⟩ := ll_at (xs := poolL) r20 (by rw [hpl]; omega)
      have f2 : Fr b L H0 H2 := S.fr.trans ((Fr.but k1).trans (Fr.but k2))
      have gF2 := k2 _ _ (k1 _ _ S.gF Fb) Fb
      have gL2 := k2 _ _ (k1 _ _ S.gL bL.symm) bL.symm
      obtain ⟨c1, c2, c3⟩ := chunk_ok chunk hch
      obtain ⟨ws, hws⟩ : ∃ ws, ws = Txt.split chunk "~" := ⟨_, rfl⟩
      have hwl : ∀ x ∈ ws, x ∈ leavesL := fun x hx => List.mem_flatMap.mpr ⟨chunk, hch, by rw [← hws]; exact hx⟩
      rw [← hws] at c1 c2
      refine ⟨P0, _, r2, _, rfl, rfl, SqL.of (f2 _ _ PA.p PA.pb PA.pL), hat, ⟨_, rfl⟩, chunk, _, rfl, rfl, rfl, (by omega), fun q nq => ?_⟩
      rw [← hws]
      have sq := Same.new (o := .lst (ws.map V.str)) nq
      refine ⟨F, q, _, _, rfl, rfl, sq _ _ gF2, upd_same, Nat.le_of_lt (small1000 (by rw [hkl, List.length_map]; omega)), fun p np => ?_⟩
      have sp := Same.new (o := .lst (kk.lines.map V.str ++ ws.map V.str)) np
      obtain ⟨kvb2, eb2⟩ := bag_there B2
      have pb : p ≠ b := (ne_of_none (sq _ _ eb2) np).symm
      have pL : p ≠ L := (ne_of_none (sq _ _ gL2) np).symm
      have npH : H0 p = none := by
        cases e : H0 p with
        | none => rfl
        | some o =>
          have z := (f2.trans (Fr.same sq)) _ _ e pb pL
          rw [np] at z
          cases z
      have e1 : (kk.app (Blk.leafs ws)).size = kk.size + ws.length := by rw [Blk.app_size, Blk.leafs_size]
      have e2 : (kk.app (Blk.leafs ws)).ifs = kk.ifs + 0 := by rw [Blk.app_ifs, Blk.leafs_ifs]
      refine hnx _ p (kk.app (Blk.leafs ws)) (m' + 1 + 1) ls' _ _ ⟨npH, ?_, (B2.keep sq).keep sp, by rw [e1]; omega, f2.trans ((Fr.same sq).trans (Fr.same sp)), sp _ _ (sq _ _ gL2), by rw [e2]; omega, by rw [e1, e2]; omega, Blk.app_all S.ok (Blk.leafs_all ws hwl)⟩
      rw [upd_same, Blk.app_lines, Blk.leafs_lines, List.map_append]
    obtain ⟨tB, pB, rB⟩ : ∃ tB, PSs (cxOf CX0 P w K mg base nmLL "_law_lines" (defScope sLLines) f cdv A outer s H E).nox (forBody llFor) tB ∧
        ∀ (D : Ends) (H0 G : Hp) (P0 T0 : Addr) (i : Nat) (F : Addr) (kk : Blk) (m' : Nat) (ls' : List Int) (v6 v7 : Option V), PoolAt H0 P0 T0 b L → LS H0 G b L c m ls i 0 F kk m' ls' → i ≤ 14 →
          (∀ (G : Hp) (F : Addr) (kk : Blk) (m' : Nat) (ls' : List Int) (v6 v7 : Option V), LS H0 G b L c m ls (i + 1) 0 F kk m' ls' → D.nx [some (.ref b), some (.int (deep : Nat)), some (.ref L), some (.ref P0), some (.ref T0), some (.ref F), v6, v7] G) →
          tB D [some (.ref b), some (.int (deep : Nat)), some (.ref L), some (.ref P0), some (.ref T0), some (.ref F), v6, v7] G := by
      refine ⟨_, pss_one (ps_if (PW.pt (pw_and (pt_cmpR op_eq (pe_call GD hr1 rfl gD kD bD .nil pass0 (pa_cons (pv 0) (pa_cons pe_int pa_nil))) pe_int (nomark _)) (pw_and (pt_cmpR op_lt (pv 1) pe_int (nomark _)) (pw_and1 (pt_cmpR (op_neD hr.units) (pv 2) (pe_lst pa_nil) (nomark _)))))) pS pE), ?_⟩
      intro D H0 G P0 T0 i F kk m' ls' v6 v7 PA S hi8 hnx
      have hcnt := S.cnt
      have hsiz := S.siz
      have hmm := S.mm
      have hks : kk.size ≤ 300 := by omega
      obtain ⟨kvb, eb⟩ := bag_there S.bag
      have bL : b ≠ L := ne_of eb S.gL (by intro z; cases z)
      have Fb : F ≠ b := ne_of S.gF eb (by intro z; cases z)
      refine ⟨_, rfl, b, c, 6, m', rfl, S.bag, by omega, by decide, by decide, fun r H1 r0 r1 B1 k1 => ?_⟩
      have S1 : LS H0 H1 b L c m ls i 1 F kk (m' + 1) ls' := ⟨S.hF, k1 _ _ S.gF Fb, B1, by omega, S.fr.trans (Fr.but k1), k1 _ _ S.gL bL.symm, S.cnt, S.siz, S.ok⟩
      have S1' : LS H0 H1 b L c m ls i 2 F kk (m' + 1) ls' := ⟨S1.hF, S1.gF, S1.bag, by omega, S1.fr, S1.gL, S1.cnt, S1.siz, S1.ok⟩
      refine ⟨rfl, _, rfl, ?_⟩
      refine ite2 (fun hr0 => ?_) (fun hr0 => ?_)
      case refine_2 =>
        refine iteF ?_
        exact rE D H0 H1 P0 T0 i F kk (m' + 1) ls' _ _ PA S1' hi8 (by omega) hnx
      refine ⟨_, rfl, _, _, rfl, rfl, _, rfl, ?_⟩
      refine ite2 (fun hd4 => ?_) (fun hd4 => ?_)
      case refine_2 =>
        refine iteF ?_
        exact rE D H0 H1 P0 T0 i F kk (m' + 1) ls' _ _ PA S1' hi8 (by omega) hnx
      have hd4' := of_decide_eq_true hd4
      refine ⟨_, rfl, (by show 0 ≤ sizeLine; decide), fun q nq => ?_⟩
      have sq := Same.new (o := .lst []) nq
      have S2 : LS H0 (upd H1 q (.lst [])) b L c m ls i 2 F kk (m' + 1) ls' := ⟨S1.hF, sq _ _ S1.gF, S1.bag.keep sq, by omega, S1.fr.trans (Fr.same sq), sq _ _ S1.gL, S1.cnt, S1.siz, S1.ok⟩
      refine ⟨.list (ls'.map PyData.int), .list [], .lst (SqL.of S2.gL) (dpInts ls'), .lst (SqL.of upd_same) .nil, shapedInts ls', by decide +kernel, ?_⟩
      cases ls' with
      | nil =>
        refine ⟨_, rfl, ?_⟩
        refine ifF3 (show (!PyData.eqv (.list []) (.list [])) = false by simp [PyData.eqv, PyData.eqvAll]) ?_
        exact rE D H0 _ P0 T0 i F kk (m' + 1) [] _ _ PA S2 hi8 (by omega) hnx
      | cons x xs =>
        refine ⟨_, rfl, ?_⟩
        refine ifT3 (show (!PyData.eqv (.list ((x :: xs).map PyData.int)) (.list [])) = true by simp [PyData.eqv, PyData.eqvAll]) ?_
        exact rS D H0 _ P0 T0 i F kk (m' + 1) (x :: xs) _ _ PA S2 (by omega) (by intro z; cases z) hi8 hnx
    refine ⟨_, pss_cons (ps_set (i := 3) scLL.nd rfl (.inl rfl) pe_str)
      (pss_cons (ps_set (i := 3) scLL.nd rfl (.inl rfl) (pe_op op_add_str (pv 3) pe_str))
      (pss_cons (ps_set (i := 3) scLL.nd rfl (.inl rfl) (pe_op op_add_str (pv 3) pe_str))
      (pss_cons (ps_set (i := 3) scLL.nd rfl (.inl rfl) (pe_op op_add_str (pv 3) pe_str))
      (pss_cons (ps_set (i := 3) scLL.nd rfl (.inl rfl) (pe_split (pe_op op_add_str (pv 3) pe_str) pe_str))
      (pss_cons (ps_set (i := 4) scLL.nd rfl (.inl rfl) (pe_lst (pa_cons pe_str (pa_cons pe_str (pa_cons pe_str (pa_cons pe_str (pa_cons pe_str pa_nil)))))))
      (pss_cons (ps_set (i := 4) scLL.nd rfl (.inl rfl) (pe_op op_cat (pv 4) (pe_lst (pa_cons pe_str (pa_cons pe_str pa_nil)))))
      (pss_cons (ps_par (i := 5) (j := 6) rfl scLL.nd rfl rfl (by decide) rfl rfl (pa_cons (pe_lst pa_nil) (pa_cons (pe_op op_mul (pe_call GD hr1 rfl gD kD bD .nil pass0 (pa_cons (pv 0) (pa_cons pe_int pa_nil))) pe_int) pa_nil)) (by rfl))
      (pss_cons (ps_for PassesOwn.never rfl (pi_range1 (by rfl) T.range (pa_cons (pe_ifExp (pt_cmpR op_eq (pv 1) pe_int (nomark _)) (pe_op op_add (pv 6) (pe_call GD hr1 rfl gD kD bD .nil pass0 (pa_cons (pv 0) (pa_cons pe_int pa_nil)))) (pe_call GD hr1 rfl gD kD bD .nil pass0 (pa_cons (pv 0) (pa_cons pe_int pa_nil)))) pa_nil)) (pg_name (i := 7) scLL.nd rfl (Or.inl rfl)) pB)
      (pss_one (ps_ret (pv 5))))))))))), ?_⟩
    refine ⟨_, rfl, _, _, rfl, rfl, by decide +kernel, _, rfl, _, _, rfl, rfl, by decide +kernel, _, rfl, _, _, rfl, rfl, by decide +kernel, _, rfl, _, _, rfl, rfl, by decide +kernel, ⟨_, rfl⟩, _, _, rfl, rfl, rfl, by decide +kernel, fun P0 nP => ?_⟩
    have hps := pool_split
    unfold poolS at hps
    rw [hps]
    have sP := Same.new (o := .lst (poolL.map V.str)) nP
    refine ⟨(by show 5 ≤ sizeLine; decide), fun t0 n0 => ?_⟩
    have sT0 := Same.new (o := .lst ((rawT.take 5).map V.str)) n0
    refine ⟨_, rfl, (by show 2 ≤ sizeLine; decide), fun t1 n1 => ?_⟩
    have sT1 := Same.new (o := .lst ((rawT.drop 5).map V.str)) n1
    refine ⟨t0, t1, (rawT.take 5).map V.str, (rawT.drop 5).map V.str, rfl, rfl, sT1 _ _ upd_same, upd_same, (by show 7 ≤ sizeLine; decide), fun T0 nT => ?_⟩
    have sT := Same.new (o := .lst ((rawT.take 5).map V.str ++ (rawT.drop 5).map V.str)) nT
    obtain ⟨H0, hH0⟩ : ∃ H0, H0 = upd (upd (upd (upd H P0 (.lst (poolL.map V.str))) t0 (.lst ((rawT.take 5).map V.str))) t1 (.lst ((rawT.drop 5).map V.str))) T0 (.lst ((rawT.take 5).map V.str ++ (rawT.drop 5).map V.str)) := ⟨_, rfl⟩
    have sA : Same H H0 := by
      rw [hH0]
      exact sP.trans (sT0.trans (sT1.trans sT))
    obtain ⟨kvb, eb⟩ := bag_there hB
    have bL : b ≠ L := ne_of eb hL (by intro z; cases z)
    have PA : PoolAt H0 P0 T0 b L := ⟨by rw [hH0]; exact sT _ _ (sT1 _ _ (sT0 _ _ upd_same)), by rw [hH0]; exact upd_same, (ne_of_none eb nP).symm, (ne_of_none hL nP).symm, (ne_of_none (sT1 _ _ (sT0 _ _ (sP _ _ eb))) nT).symm, (ne_of_none (sT1 _ _ (sT0 _ _ (sP _ _ hL))) nT).symm, _, sA _ _ hL⟩
    refine (show tSeq _ _ _ _ (upd (upd (upd (upd H P0 (.lst (poolL.map V.str))) t0 (.lst ((rawT.take 5).map V.str))) t1 (.lst ((rawT.drop 5).map V.str))) T0 (.lst ((rawT.take 5).map V.str ++ (rawT.drop 5).map V.str))) from ?_)
    rw [← hH0]
    refine ⟨(by show 0 ≤ sizeLine; decide), fun F0 nF => ?_⟩
    have s0 := Same.new (o := .lst []) nF
    have B0 := (hB.keep sA).keep s0
    have eb0 := sA _ _ eb
    have F0b : F0 ≠ b := (ne_of_none eb0 nF).symm
    have S0 : ∀ (G : Hp) (m' : Nat), K15D.But b (upd H0 F0 (.lst [])) G → BagAt c G b m' → m' ≤ m + 2 → LS H0 G b L c m ls 0 0 F0 .nil m' ls := fun G m' k0 B0 hm' =>
      ⟨nF, k0 _ _ upd_same F0b, B0, hm', (Fr.same s0).trans (Fr.but k0), k0 _ _ (s0 _ _ (sA _ _ hL)) bL.symm, rfl, Nat.zero_le _, trivial⟩
    have done : ∀ (n : Nat) (G : Hp) (F : Addr) (kk : Blk) (m' : Nat) (ls' : List Int), n ≤ turnsM deep → LS H0 G b L c m ls n 0 F kk m' ls' → Q (.ref F) G := fun n G F kk m' ls' hn S => by
      have := S.siz
      have hFn : H F = none := by
        cases e : H F with
        | none => rfl
        | some o =>
          have z := sA _ _ e
          rw [S.hF] at z
          cases z
      exact k F G kk m' ls' hFn S.gF S.bag S.mm ((Fr.same sA).trans S.fr) S.gL S.cnt (by omega) S.ok
    have t14 : turnsM deep ≤ 14 := by
      unfold turnsM
      split
      · exact Nat.le_refl _
      · decide
    refine ⟨_, rfl, b, c, 3, m, rfl, B0, by omega, by decide, by decide, fun r1 H1 r10 r11 B1 k1 => ?_⟩
    refine ⟨_, _, rfl, rfl, .inr ⟨by decide, by decide⟩, ?_⟩
    have loop : ∀ (n1 : Nat) (H2 : Hp) (m2 : Nat) (v6 : Option V), n1 ≤ turnsM deep → K15D.But b (upd H0 F0 (.lst [])) H2 → BagAt c H2 b m2 → m2 ≤ m + 2 →
        tFor (fun _ H2 R => R (Itr 0 n1) H2) (gName 7) tB { nx := fun σ H' => tRet (tVar 5) { nx := fun x H' => Q V.non H', rt := Q } σ H', rt := Q } [some (.ref b), some (.int (deep : Nat)), some (.ref L), some (.ref P0), some (.ref T0), some (.ref F0), v6, none] H2 := fun n1 H2 m2 v6 hn1 k1 B1 hm1 => by
      refine for_range (lo := 0) (n := n1) (fun i σ G => ∃ (F : Addr) (kk : Blk) (m' : Nat) (ls' : List Int) (v6 v7 : Option V), σ = [some (.ref b), some (.int (deep : Nat)), some (.ref L), some (.ref P0), some (.ref T0), some (.ref F), v6, v7] ∧ LS H0 G b L c m ls i 0 F kk m' ls')
        ⟨F0, .nil, m2, ls, v6, none, rfl, S0 H2 m2 k1 B1 hm1⟩ ?_ ?_
      · rintro i σ G hi ⟨F, kk, m', ls', v6, v7, rfl, S⟩
        exact rB _ H0 G P0 T0 i F kk m' ls' _ _ PA S (by omega) fun G2 F2 kk2 m2 ls2 v6 v7 S2 => ⟨F2, kk2, m2, ls2, _, _, rfl, S2⟩
      · rintro σ G ⟨F, kk, m', ls', v6, v7, rfl, S⟩
        exact ⟨_, rfl, done n1 G F kk m' ls' hn1 S⟩
    refine ⟨_, _, rfl, _, rfl, rfl, _, rfl, ?_⟩
    by_cases hd0 : deep = 0
    · refine ifT3 (decide_eq_true (by rw [hd0]; rfl)) ?_
      refine ⟨_, rfl, _, rfl, b, c, 7, m + 1, rfl, B1, by omega, by decide, by decide, fun r2 H2 r20 r21 B2 k2 => ?_⟩
      obtain ⟨n1, hn1⟩ : ∃ n1 : Nat, r1 * 4 + r2 = n1 := ⟨(r1 * 4 + r2).toNat, by omega⟩
      have hn2 : n1 ≤ turnsM deep := by
        unfold turnsM
        rw [if_pos hd0]
        omega
      refine ⟨_, _, rfl, rfl, (n1 : Int), by show [V.int (r1 * 4 + r2)] = _; rw [hn1], by omega, by omega, ?_⟩
      rw [Int.toNat_natCast]
      exact loop n1 H2 (m + 1 + 1) _ hn2 (k1.trans k2) B2 (by omega)
    · refine ifF3 (decide_eq_false fun z => hd0 (by have := V.int.inj z; omega)) ?_
      refine ⟨_, rfl, b, c, 5, m + 1, rfl, B1, by omega, by decide, by decide, fun r2 H2 r20 r21 B2 k2 => ?_⟩
      obtain ⟨n1, rfl⟩ : ∃ n1 : Nat, r2 = n1 := ⟨r2.toNat, by omega⟩
      have hn2 : n1 ≤ turnsM deep := by
        unfold turnsM
        rw [if_neg hd0]
        omega
      refine ⟨(n1 : Int), rfl, by omega, by omega, ?_⟩
      rw [Int.toNat_natCast]
      exact loop n1 H2 (m + 1 + 1) _ hn2 (k1.trans k2) B2 (by omega)
theorem ok_lls {f fD : Addr} {fd fdD : FuncData} (F : Fun K "_law_lines" "_law_lines" sLLines f fd) (T : TxtB mg)
    (GD : FnOk P w K mg base CX0 1 fD fdD ["_law_bag_here", "_law_limit"] spDraw) (kD : PySem.W.keepIn K (.ref fD) = true) (bD : Binds K fdD ["_law_bag_here", "_law_limit"] []) (gD : mg "_law_draw" = some (.ref fD))
    (gf : mg "_law_lines" = some (.ref f)) (bf : Binds K fd ["_law_bag_here", "_law_deep", "_law_left"] []) : ∀ n, FnOk P w K mg base CX0 (n + 2) f fd ["_law_bag_here", "_law_deep", "_law_left"] (spLL n)
  | 0 => ok_ll F T GD kD bD gD gf bf 0 fun k z => nomatch z
  | n + 1 => ok_ll F T GD kD bD gD gf bf (n + 1) fun k z => by
    cases z
    exact ok_lls F T GD kD bD gD gf bf n
end
end K15

set_option Elab.async false
set_option linter.all false
set_option maxRecDepth 100000
set_option maxHeartbeats 8000000
/-! The law: where a block's else and end are -/
namespace K15
open PySem L2
open K15D (TxtB)
def hd (s : Str) : Str := (Txt.split s " ").getD 0 Str.empty
def bGo : List Str → Nat → Nat → Nat → Nat × Nat
  | [], k, _, o => (o, k + 1)
  | s :: r, k, d, o => if hd s = "if" then bGo r (k + 1) (d + 1) o else if hd s = "else" ∧ d = 0 then bGo r (k + 1) d (k + 1) else if hd s = "end" then (if d = 0 then (o, k + 1) else bGo r (k + 1) (d - 1) o) else bGo r (k + 1) d o
theorem hd_else : hd "else" = "else" := by decide +kernel
theorem hd_end : hd "end" = "end" := by decide +kernel
namespace Blk
/-- what is asked of the heads of its lines -/
def Heads : Blk → Prop := All (fun s => hd s ≠ "if" ∧ hd s ≠ "else" ∧ hd s ≠ "end") (fun t => hd t = "if")
theorem bGo_over : ∀ (b : Blk), Heads b → ∀ (rest : List Str) (k d o : Nat), bGo (b.lines ++ rest) k d o = bGo rest (k + b.size) d o
  | nil, _, rest, k, d, o => rfl
  | leaf s r, ⟨⟨h1, h2, h3⟩, h4⟩, rest, k, d, o => by
    have e : bGo (s :: (r.lines ++ rest)) k d o = bGo (r.lines ++ rest) (k + 1) d o := by
      show (if hd s = "if" then _ else if hd s = "else" ∧ d = 0 then _ else if hd s = "end" then _ else bGo (r.lines ++ rest) (k + 1) d o) = _
      rw [if_neg h1, if_neg (fun z => h2 z.1), if_neg h3]
    show bGo (s :: (r.lines ++ rest)) k d o = bGo rest (k + (r.size + 1)) d o
    rw [e, bGo_over r h4, show k + 1 + r.size = k + (r.size + 1) by omega]
  | iff t a e b r, ⟨h1, h2, h3, h4⟩, rest, k, d, o => by
    have e1 : ∀ X, bGo (t :: X) k d o = bGo X (k + 1) (d + 1) o := fun X => if_pos h1
    have zi : ¬ ("else" : Str) = "if" := by decide +kernel
    have zj : ¬ ("end" : Str) = "if" := by decide +kernel
    have zk : ¬ ("end" : Str) = "else" := by decide +kernel
    have zl : ¬ ("else" : Str) = "end" := by decide +kernel
    have e2 : ∀ X k, bGo (("else" : Str) :: X) k (d + 1) o = bGo X (k + 1) (d + 1) o := fun X k => by
      show (if hd "else" = "if" then _ else if hd "else" = "else" ∧ d + 1 = 0 then _ else if hd "else" = "end" then _ else bGo X (k + 1) (d + 1) o) = _
      rw [hd_else, if_neg zi, if_neg (fun z => absurd z.2 (by omega)), if_neg zl]
    have e3 : ∀ X k, bGo (("end" : Str) :: X) k (d + 1) o = bGo X (k + 1) d o := fun X k => by
      show (if hd "end" = "if" then _ else if hd "end" = "else" ∧ d + 1 = 0 then _ else if hd "end" = "end" then (if d + 1 = 0 then _ else bGo X (k + 1) (d + 1 - 1) o) else _) = _
      rw [hd_end, if_neg zj, if_neg (fun z => zk z.1), if_pos rfl, if_neg (by omega)]
      rfl
    cases e with
    | true =>
      show bGo (t :: ((a.lines ++ ((("else" : Str) :: b.lines) ++ ("end" : Str) :: r.lines)) ++ rest)) k d o = bGo rest (k + (a.size + (b.size + 1) + r.size + 2)) d o
      rw [e1, List.append_assoc, bGo_over a h2, List.append_assoc, List.cons_append, e2, bGo_over b (h3 rfl), List.cons_append, e3, bGo_over r h4]
      congr 1
      omega
    | false =>
      show bGo (t :: ((a.lines ++ (("end" : Str) :: r.lines)) ++ rest)) k d o = bGo rest (k + (a.size + 0 + r.size + 2)) d o
      rw [e1, List.append_assoc, bGo_over a h2, List.cons_append, e3, bGo_over r h4]
      congr 1
      omega
/-- from the line behind an if on -/
theorem bGo_if {t : Str} {a : Blk} {e : Bool} {b r : Blk} (h : Heads (iff t a e b r)) (rest : List Str) (i : Nat) :
    bGo ((a.lines ++ ((if e = true then ("else" : Str) :: b.lines else []) ++ ("end" : Str) :: r.lines)) ++ rest) (i + 1) 0 0 = (if e = true then p1 i a + 1 else 0, p2 i a e b + 1) := by
  obtain ⟨h1, h2, h3, h4⟩ := h
  have zi : ¬ ("else" : Str) = "if" := by decide +kernel
  have zj : ¬ ("end" : Str) = "if" := by decide +kernel
  have zk : ¬ ("end" : Str) = "else" := by decide +kernel
  have e3 : ∀ X k o, bGo (("end" : Str) :: X) k 0 o = (o, k + 1) := fun X k o => by
    show (if hd "end" = "if" then _ else if hd "end" = "else" ∧ 0 = 0 then _ else if hd "end" = "end" then (if 0 = 0 then (o, k + 1) else _) else _) = _
    rw [hd_end, if_neg zj, if_neg (fun z => zk z.1), if_pos rfl, if_pos rfl]
  cases e with
  | true =>
    have e2 : ∀ X k, bGo (("else" : Str) :: X) k 0 0 = bGo X (k + 1) 0 (k + 1) := fun X k => by
      show (if hd "else" = "if" then _ else if hd "else" = "else" ∧ 0 = 0 then bGo X (k + 1) 0 (k + 1) else _) = _
      rw [hd_else, if_neg zi, if_pos ⟨rfl, rfl⟩]
    show bGo ((a.lines ++ ((("else" : Str) :: b.lines) ++ ("end" : Str) :: r.lines)) ++ rest) (i + 1) 0 0 = (i + 1 + a.size + 1, i + 1 + a.size + 1 + b.size + 1)
    rw [List.append_assoc, bGo_over a h2, List.append_assoc, List.cons_append, e2, bGo_over b (h3 rfl), List.cons_append, e3]
  | false =>
    show bGo ((a.lines ++ (("end" : Str) :: r.lines)) ++ rest) (i + 1) 0 0 = (0, i + 1 + a.size + 1)
    rw [List.append_assoc, bGo_over a h2, List.cons_append, e3]
end Blk
def LineOk (s : Str) : Prop := s.length + 2 ≤ sizeLine ∧ Txt.split s " " ≠ []
def spLBlock (K : PySem.W.Frag) : Sp := fun vs H Q _ => ∃ (a : Addr) (ls : List Str) (i : Nat), vs = [.ref a, .int (i : Nat)] ∧ SqL K H a (ls.map V.str) ∧ i ≤ ls.length ∧ ls.length ≤ 1000 ∧ (∀ s ∈ ls, LineOk s) ∧
  ∀ t H', Same H H' → SqT K H' t [.int ((bGo (ls.drop i) i 0 0).1 : Nat), .int ((bGo (ls.drop i) i 0 0).2 : Nat)] → Q (.ref t) H'
section
variable {P : Program} {w : World} {K : PySem.W.Frag} {mg : Str → Option Value} {base : Heap}
abbrev nmLB : List Str := ["_law_lines_here", "_law_at", "_law_deep", "_law_other", "_law_k", "_law_word"]
theorem scLB : FnScope nmLB ["_law_lines_here", "_law_at"] (defScope sLBlock) := ⟨rfl, rfl, rfl, by decide +kernel, rfl, by decide +kernel, by decide +kernel⟩
theorem ok_lblock {f : Addr} {fd : FuncData} (F : Fun K "_law_block" "_law_block" sLBlock f fd) (T : TxtB mg) : FnOk P w K mg base CX0 1 f fd ["_law_lines_here", "_law_at"] (spLBlock K) := by
  refine F.ok scLB (fun vs H Q E h => ?_) (fun cdv A outer s H vs Q E hr h => ?_)
  · obtain ⟨a, ls, i, rfl, _⟩ := h
    rfl
  · obtain ⟨a, ls, at0, rfl, ha, hat, hl, hok, k⟩ := h
    refine ⟨_, pss_cons (ps_asg (pe_tup (pa_cons pe_int (pa_cons pe_int pa_nil))) (pg_tup rfl (pgs_cons (pg_name (i := 2) scLB.nd rfl (.inl rfl)) (pgs_cons (pg_name (i := 3) scLB.nd rfl (.inl rfl)) pgs_nil))))
      (pss_cons (ps_for PassesOwn.never rfl (pi_range2 (by rfl) T.range (pa_cons (pv 1) (pa_cons (pe_callB call_len_seq (by rfl) T.len PySem.boot_len (pa_cons (pv 0) pa_nil)) pa_nil))) (pg_name (i := 4) scLB.nd rfl (Or.inl rfl))
        (pss_cons (ps_set (i := 5) scLB.nd rfl (.inl rfl) (pe_ix ix_list (pe_split (pe_ix ix_list (pv 0) (pv 4) (fun _ _ => rfl)) pe_str) pe_int (fun _ _ => rfl)))
        (pss_one (ps_if (pt_cmpR op_eq (pv 5) pe_str (nomark _))
          (pss_one (ps_set (i := 2) scLB.nd rfl (.inl rfl) (pe_op op_add (pv 2) pe_int)))
          (pss_one (ps_if (PW.pt (pw_and (pt_cmpR op_eq (pv 5) pe_str (nomark _)) (pw_and1 (pt_cmpR op_eq (pv 2) pe_int (nomark _)))))
            (pss_one (ps_set (i := 3) scLB.nd rfl (.inl rfl) (pe_op op_add (pv 4) pe_int)))
            (pss_one (ps_if (pt_cmpR op_eq (pv 5) pe_str (nomark _))
              (pss_cons (ps_if (pt_cmpR op_eq (pv 2) pe_int (nomark _)) (pss_one (ps_ret (pe_tup (pa_cons (pv 3) (pa_cons (pe_op op_add (pv 4) pe_int) pa_nil))))) pss_nil)
              (pss_one (ps_set (i := 2) scLB.nd rfl (.inl rfl) (pe_op op_sub (pv 2) pe_int))))
              pss_nil))))))))
      (pss_one (ps_ret (pe_tup (pa_cons (pv 3) (pa_cons (pe_op op_add (pe_callB call_len_seq (by rfl) T.len PySem.boot_len (pa_cons (pv 0) pa_nil)) pe_int) pa_nil)))))), ?_⟩
    refine ⟨(by show 2 ≤ sizeLine; decide), fun t0 n0 => ?_⟩
    have s0 := Same.new (o := .tup [.int 0, .int 0]) n0
    refine ⟨t0, _, rfl, SqT.of upd_same, rfl, _, _, rfl, _, _, rfl, rfl, ?_⟩
    refine ⟨_, rfl, _, rfl, a, _, rfl, .inl (s0.seq ha), _, _, rfl, ⟨by omega, by omega, by omega, by rw [List.length_map]; omega⟩, ?_⟩
    have hn : (((ls.map V.str).length : Int) - (at0 : Int)).toNat = ls.length - at0 := by
      rw [List.length_map]
      omega
    rw [hn]
    refine for_range (lo := (at0 : Int)) (n := ls.length - at0) (fun i σ G => ∃ (d o : Nat) (v4 v5 : Option V), σ = [some (.ref a), some (.int (at0 : Nat)), some (.int (d : Nat)), some (.int (o : Nat)), v4, v5] ∧ Same H G ∧ bGo (ls.drop (at0 + i)) (at0 + i) d o = bGo (ls.drop at0) at0 0 0)
      ⟨0, 0, none, none, rfl, s0, rfl⟩ ?_ ?_
    · rintro i σ G hi ⟨d, o, v4, v5, rfl, hG, hgo⟩
      obtain ⟨s, hs⟩ : ∃ s, ls[at0 + i]? = some s := ⟨_, List.getElem?_eq_getElem (by omega)⟩
      obtain ⟨q1, q2⟩ := hok s (List.mem_of_getElem? hs)
      rw [drop_cons hs] at hgo
      have hat2 : atI (ls.map V.str) ((at0 : Int) + (i : Int)) = some (.str s) := by
        rw [show (at0 : Int) + (i : Int) = ((at0 + i : Nat) : Int) by omega]
        exact atI_nat (by rw [List.getElem?_map, hs]; rfl)
      refine ⟨_, rfl, _, rfl, a, _, _, _, rfl, rfl, hG.seq ha, hat2, ⟨_, rfl⟩, s, _, rfl, rfl, rfl, q1, fun q nq => ?_⟩
      have sq := Same.new (o := .lst ((Txt.split s " ").map V.str)) nq
      have hG2 := hG.trans sq
      have hd0 : atI ((Txt.split s " ").map V.str) 0 = some (.str (hd s)) := at_pos (ws := Txt.split s " ") (i := 0) (List.length_pos_iff.mpr q2)
      refine ⟨q, _, _, _, rfl, rfl, SqL.of upd_same, hd0, ?_⟩
      have e2 : ∀ x y : Str, ¬ x = y → (decide (V.str x = V.str y)) = false := fun x y h => decide_eq_false fun z => h (V.str.inj z)
      have hgo' : (if hd s = "if" then bGo (ls.drop (at0 + i + 1)) (at0 + i + 1) (d + 1) o else if hd s = "else" ∧ d = 0 then bGo (ls.drop (at0 + i + 1)) (at0 + i + 1) d (at0 + i + 1) else if hd s = "end" then (if d = 0 then (o, at0 + i + 1) else bGo (ls.drop (at0 + i + 1)) (at0 + i + 1) (d - 1) o) else bGo (ls.drop (at0 + i + 1)) (at0 + i + 1) d o) = bGo (ls.drop at0) at0 0 0 := hgo
      refine ⟨_, rfl, rfl, _, rfl, ?_⟩
      by_cases h1 : hd s = "if"
      · rw [if_pos h1] at hgo'
        refine ifT3 (decide_eq_true (congrArg V.str h1)) ?_
        refine ⟨_, rfl, _, _, rfl, rfl, ?_⟩
        exact ⟨d + 1, o, _, _, rfl, hG2, hgo'⟩
      rw [if_neg h1] at hgo'
      refine ifF3 (e2 _ _ h1) ?_
      refine ⟨_, rfl, rfl, _, rfl, ?_⟩
      by_cases h2 : hd s = "else"
      · refine ifT3 (decide_eq_true (congrArg V.str h2)) ?_
        refine ⟨_, rfl, rfl, _, rfl, ?_⟩
        by_cases h3 : d = 0
        · rw [if_pos ⟨h2, h3⟩] at hgo'
          refine ifT3 (decide_eq_true (by rw [h3]; rfl)) ?_
          refine ⟨_, rfl, _, _, rfl, rfl, ?_⟩
          refine ⟨d, at0 + i + 1, some (.int ((at0 : Int) + (i : Int))), some (.str (hd s)), ?_, hG2, hgo'⟩
          rw [show ((at0 + i + 1 : Nat) : Int) = (at0 : Int) + (i : Int) + 1 by omega]
          rfl
        · have h4 : ¬ hd s = "end" := fun z => by
            rw [h2] at z
            exact absurd z (by decide +kernel)
          rw [if_neg (fun z => h3 z.2), if_neg h4] at hgo'
          refine ifF3 (decide_eq_false fun z => h3 (by have := V.int.inj z; omega)) ?_
          refine ⟨_, rfl, rfl, _, rfl, ?_⟩
          refine ifF3 (e2 _ _ h4) ?_
          exact ⟨d, o, _, _, rfl, hG2, hgo'⟩
      rw [if_neg (fun z => h2 z.1)] at hgo'
      refine ifF3 (e2 _ _ h2) ?_
      refine iteF ?_
      refine ⟨_, rfl, rfl, _, rfl, ?_⟩
      by_cases h4 : hd s = "end"
      · rw [if_pos h4] at hgo'
        refine ifT3 (decide_eq_true (congrArg V.str h4)) ?_
        refine ⟨_, rfl, rfl, _, rfl, ?_⟩
        by_cases h3 : d = 0
        · rw [if_pos h3] at hgo'
          refine ifT3 (decide_eq_true (by rw [h3]; rfl)) ?_
          refine ⟨_, rfl, _, rfl, _, _, rfl, rfl, (by show 2 ≤ sizeLine; decide), fun t nt => ?_⟩
          refine k t _ (hG2.trans (Same.new nt)) ?_
          rw [← hgo']
          refine SqT.of ?_
          rw [show ((at0 + i + 1 : Nat) : Int) = (at0 : Int) + (i : Int) + 1 by omega]
          exact upd_same
        · rw [if_neg h3] at hgo'
          refine ifF3 (decide_eq_false fun z => h3 (by have := V.int.inj z; omega)) ?_
          refine ⟨_, rfl, _, _, rfl, rfl, ?_⟩
          refine ⟨d - 1, o, some (.int ((at0 : Int) + (i : Int))), some (.str (hd s)), ?_, hG2, hgo'⟩
          rw [show ((d - 1 : Nat) : Int) = (d : Int) - 1 by omega]
          rfl
      · rw [if_neg h4] at hgo'
        refine ifF3 (e2 _ _ h4) ?_
        exact ⟨d, o, _, _, rfl, hG2, hgo'⟩
    · rintro σ G ⟨d, o, v4, v5, rfl, hG, hgo⟩
      have e : at0 + (ls.length - at0) = ls.length := by omega
      rw [e, List.drop_length] at hgo
      refine ⟨_, rfl, _, rfl, a, _, rfl, .inl (hG.seq ha), _, _, rfl, rfl, (by show 2 ≤ sizeLine; decide), fun t nt => ?_⟩
      refine k t _ (hG.trans (Same.new nt)) ?_
      rw [← hgo]
      refine SqT.of ?_
      show _ = some (HO.tup [V.int (o : Nat), V.int ((ls.length + 1 : Nat) : Int)])
      rw [upd_same, List.length_map]
      rfl
end
end K15

set_option Elab.async false
set_option linter.all false
set_option maxRecDepth 100000
set_option maxHeartbeats 8000000
/-! The law's ways, on trees: a way, and whether it has ended -/
namespace K15
open PySem L2
namespace Blk
abbrev LWay := List Nat × Bool
/-- ways, then ways behind those that have not ended -/
def comb (F S : List LWay) : List LWay := F.filter (·.2) ++ (F.filter (!·.2)).flatMap fun u => S.map fun v => (u.1 ++ v.1, v.2)
theorem mem_comb {F S : List LWay} {x : LWay} : x ∈ comb F S ↔ (x ∈ F ∧ x.2 = true) ∨ ∃ u ∈ F, u.2 = false ∧ ∃ v ∈ S, x = (u.1 ++ v.1, v.2) := by
  unfold comb
  rw [List.mem_append, List.mem_filter, List.mem_flatMap]
  constructor
  · rintro (h | ⟨u, hu, hx⟩)
    · exact .inl h
    · obtain ⟨h1, h2⟩ := List.mem_filter.mp hu
      obtain ⟨v, hv, e⟩ := List.mem_map.mp hx
      exact .inr ⟨u, h1, by simpa using h2, v, hv, e.symm⟩
  · rintro (h | ⟨u, hu, h2, v, hv, e⟩)
    · exact .inl h
    · exact .inr ⟨u, List.mem_filter.mpr ⟨hu, by simpa using h2⟩, List.mem_map.mpr ⟨v, hv, e.symm⟩⟩
theorem len_comb (F S : List LWay) : (comb F S).length = (F.filter (·.2)).length + (F.filter (!·.2)).length * S.length := by
  unfold comb
  rw [List.length_append]
  congr 1
  generalize F.filter (!·.2) = U
  induction U with
  | nil => simp
  | cons u U ih =>
    rw [List.flatMap_cons, List.length_append, List.length_map, ih, List.length_cons, Nat.succ_mul, Nat.add_comm]
theorem filter_len (F : List LWay) : (F.filter (·.2)).length + (F.filter (!·.2)).length = F.length := by
  induction F with
  | nil => rfl
  | cons x F ih =>
    obtain ⟨w, e⟩ := x
    cases e with
    | true => simp only [List.filter_cons, List.length_cons]; simp; omega
    | false => simp only [List.filter_cons, List.length_cons]; simp; omega
/-- the number of those that have not ended -/
def open_ (F : List LWay) : Nat := (F.filter (!·.2)).length
theorem open_comb (F S : List LWay) : open_ (comb F S) = open_ F * open_ S := by
  have h1 : ∀ U : List LWay, ((U.flatMap fun u => S.map fun v => ((u.1 ++ v.1, v.2) : LWay)).filter (!·.2)).length = U.length * open_ S := fun U => by
    induction U with
    | nil => simp
    | cons u U ih =>
      rw [List.flatMap_cons, List.filter_append, List.length_append, ih, List.length_cons, Nat.succ_mul, Nat.add_comm]
      congr 1
      unfold open_
      rw [List.filter_map, List.length_map]
      rfl
  have h2 : ((F.filter (·.2)).filter (!·.2)) = ([] : List LWay) := by
    rw [List.filter_filter]
    refine List.filter_eq_nil_iff.mpr fun x _ => ?_
    cases x.2 <;> simp
  show ((comb F S).filter (!·.2)).length = _
  unfold comb
  rw [List.filter_append, h2, List.nil_append, h1]
  rfl
theorem comb_assoc {F T S : List LWay} {x : LWay} : x ∈ comb (comb F T) S ↔ x ∈ comb F (comb T S) := by
  refine Iff.trans mem_comb (Iff.trans ?_ mem_comb.symm)
  constructor
  · rintro (⟨h, hx⟩ | ⟨u, hu, hu2, v, hv, rfl⟩)
    · rcases mem_comb.mp h with h | ⟨a, ha, ha2, b, hb, rfl⟩
      · exact .inl h
      · exact .inr ⟨a, ha, ha2, b, mem_comb.mpr (.inl ⟨hb, hx⟩), rfl⟩
    · rcases mem_comb.mp hu with h | ⟨a, ha, ha2, b, hb, rfl⟩
      · rw [hu2] at h
        exact absurd h.2 (by decide)
      · exact .inr ⟨a, ha, ha2, (b.1 ++ v.1, v.2), mem_comb.mpr (.inr ⟨b, hb, hu2, v, hv, rfl⟩), by rw [List.append_assoc]⟩
  · rintro (⟨h, hx⟩ | ⟨a, ha, ha2, y, hy, rfl⟩)
    · exact .inl ⟨mem_comb.mpr (.inl ⟨h, hx⟩), hx⟩
    · rcases mem_comb.mp hy with h | ⟨b, hb, hb2, v, hv, rfl⟩
      · exact .inl ⟨mem_comb.mpr (.inr ⟨a, ha, ha2, y, h.1, rfl⟩), h.2⟩
      · exact .inr ⟨(a.1 ++ b.1, b.2), mem_comb.mpr (.inr ⟨a, ha, ha2, b, hb, rfl⟩), hb2, v, hv, by rw [List.append_assoc]⟩
theorem len_assoc (F T S : List LWay) : (comb (comb F T) S).length = (comb F (comb T S)).length := by
  have h1 := len_comb (comb F T) S
  have h2 := len_comb F (comb T S)
  have h3 := len_comb T S
  have h4 := open_comb F T
  have h5 := filter_len (comb F T)
  have h6 := len_comb F T
  have h7 := filter_len T
  unfold open_ at h4
  rw [h1, h2, h3]
  rw [h4] at h5 ⊢
  have e1 : ((comb F T).filter (·.2)).length = (F.filter (·.2)).length + (F.filter (!·.2)).length * (T.filter (·.2)).length := by
    have : (F.filter (!·.2)).length * T.length = (F.filter (!·.2)).length * (T.filter (·.2)).length + (F.filter (!·.2)).length * (T.filter (!·.2)).length := by rw [← Nat.mul_add, h7]
    omega
  rw [e1, Nat.mul_add, ← Nat.mul_assoc]
  omega
def isQ (s : Str) : Bool := decide (s = "quit") || decide (s = "no")
def pre (n : Nat) (x : LWay) : LWay := (n :: x.1, x.2)
/-- the ways of one line, or of one block -/
def lTail (i : Nat) (A B : List LWay) : List LWay := A.map (pre (i + 1)) ++ B.map (pre (i + 1))
def lw : Blk → Nat → List LWay
  | nil, _ => [([], false)]
  | leaf s r, i => comb [([i + 1], isQ s)] (lw r (i + 1))
  | iff _ a e b r, i => comb (lTail i (lw a (i + 1)) (if e = true then lw b (p1 i a + 1) else [([], false)])) (lw r (p2 i a e b + 1))
/-- r is a way of S, or one behind which K comes -/
def InW (S : List LWay) (K : List (List Nat)) (r : List Nat) : Prop := ∃ x ∈ S, (x.2 = true ∧ r = x.1) ∨ (x.2 = false ∧ ∃ k ∈ K, r = x.1 ++ k)
theorem inW_comb {F S : List LWay} {K : List (List Nat)} {r : List Nat} : InW (comb F S) K r ↔ ∃ x ∈ F, (x.2 = true ∧ r = x.1) ∨ (x.2 = false ∧ ∃ k, InW S K k ∧ r = x.1 ++ k) := by
  constructor
  · rintro ⟨x, hx, h⟩
    rcases mem_comb.mp hx with ⟨h1, h2⟩ | ⟨u, hu, hu2, v, hv, rfl⟩
    · rcases h with ⟨_, rfl⟩ | ⟨z, _⟩
      · exact ⟨x, h1, .inl ⟨h2, rfl⟩⟩
      · rw [h2] at z
        cases z
    · refine ⟨u, hu, .inr ⟨hu2, ?_⟩⟩
      rcases h with ⟨z, rfl⟩ | ⟨z, k, hk, rfl⟩
      · exact ⟨v.1, ⟨v, hv, .inl ⟨z, rfl⟩⟩, rfl⟩
      · exact ⟨v.1 ++ k, ⟨v, hv, .inr ⟨z, k, hk, rfl⟩⟩, List.append_assoc ..⟩
  · rintro ⟨x, hx, ⟨h2, rfl⟩ | ⟨h2, k, ⟨v, hv, h⟩, rfl⟩⟩
    · exact ⟨x, mem_comb.mpr (.inl ⟨hx, h2⟩), .inl ⟨h2, rfl⟩⟩
    · refine ⟨(x.1 ++ v.1, v.2), mem_comb.mpr (.inr ⟨x, hx, h2, v, hv, rfl⟩), ?_⟩
      rcases h with ⟨z, rfl⟩ | ⟨z, k, hk, rfl⟩
      · exact .inl ⟨z, rfl⟩
      · exact .inr ⟨z, k, hk, (List.append_assoc ..).symm⟩
/-- the leaves end where the law says so -/
def SameFin (f : Str → St) : Blk → Prop := All (fun s => isFin (f s) = isQ s) fun _ => True
theorem ways_lw (f : Str → St) : ∀ (b : Blk), SameFin f b → ∀ (i : Nat) (K : List (List Nat)) (r : List Nat), r ∈ ways f b i K ↔ InW (lw b i) K r
  | nil, _, i, K, r => by
    show r ∈ K ↔ InW [([], false)] K r
    constructor
    · intro h
      exact ⟨([], false), List.mem_singleton.mpr rfl, .inr ⟨rfl, r, h, rfl⟩⟩
    · rintro ⟨x, hx, h⟩
      rw [List.mem_singleton.mp hx] at h
      rcases h with ⟨z, _⟩ | ⟨_, k, hk, rfl⟩
      · cases z
      · exact hk
  | leaf s r, ⟨h1, h2⟩, i, K, q => by
    have ih := ways_lw f r h2 (i + 1) K
    have h1' : isFin (f s) = isQ s := h1
    show q ∈ (if isFin (f s) = true then [[i + 1]] else (ways f r (i + 1) K).map ((i + 1) :: ·)) ↔ InW (comb [([i + 1], isQ s)] (lw r (i + 1))) K q
    rw [inW_comb, h1']
    cases e : isQ s with
    | true =>
      rw [if_pos rfl]
      constructor
      · intro h
        exact ⟨_, List.mem_singleton.mpr rfl, .inl ⟨rfl, List.mem_singleton.mp h⟩⟩
      · rintro ⟨x, hx, h⟩
        rw [List.mem_singleton.mp hx] at h
        rcases h with ⟨_, rfl⟩ | ⟨z, _⟩
        · exact List.mem_singleton.mpr rfl
        · cases z
    | false =>
      rw [if_neg Bool.false_ne_true]
      constructor
      · intro h
        obtain ⟨k, hk, rfl⟩ := List.mem_map.mp h
        exact ⟨_, List.mem_singleton.mpr rfl, .inr ⟨rfl, k, (ih k).mp hk, rfl⟩⟩
      · rintro ⟨x, hx, h⟩
        rw [List.mem_singleton.mp hx] at h
        rcases h with ⟨z, _⟩ | ⟨_, k, hk, rfl⟩
        · cases z
        · exact List.mem_map.mpr ⟨k, (ih k).mpr hk, rfl⟩
  | iff t a e b r, ⟨_, h2, h3, h4⟩, i, K, q => by
    have iha := ways_lw f a h2 (i + 1) (ways f r (p2 i a e b + 1) K)
    have ihr := ways_lw f r h4 (p2 i a e b + 1) K
    have ihb : ∀ k, k ∈ (if e = true then ways f b (p1 i a + 1) (ways f r (p2 i a e b + 1) K) else ways f r (p2 i a e b + 1) K) ↔ InW (if e = true then lw b (p1 i a + 1) else [([], false)]) (ways f r (p2 i a e b + 1) K) k := fun k => by
      cases e with
      | true => exact ways_lw f b (h3 rfl) (p1 i a + 1) _ k
      | false =>
        show k ∈ ways f r (p2 i a false b + 1) K ↔ InW [([], false)] _ k
        constructor
        · intro h
          exact ⟨([], false), List.mem_singleton.mpr rfl, .inr ⟨rfl, k, h, rfl⟩⟩
        · rintro ⟨x, hx, h⟩
          rw [List.mem_singleton.mp hx] at h
          rcases h with ⟨z, _⟩ | ⟨_, k, hk, rfl⟩
          · cases z
          · exact hk
    have key : ∀ (S : List LWay) (k : List Nat), InW S (ways f r (p2 i a e b + 1) K) k → ∃ x ∈ S.map (pre (i + 1)), (x.2 = true ∧ (i + 1) :: k = x.1) ∨ (x.2 = false ∧ ∃ k', InW (lw r (p2 i a e b + 1)) K k' ∧ (i + 1) :: k = x.1 ++ k') := fun S k ⟨x, hx, h⟩ => by
      refine ⟨pre (i + 1) x, List.mem_map.mpr ⟨x, hx, rfl⟩, ?_⟩
      rcases h with ⟨z, rfl⟩ | ⟨z, k', hk', rfl⟩
      · exact .inl ⟨z, rfl⟩
      · exact .inr ⟨z, k', (ihr k').mp hk', rfl⟩
    have back : ∀ (S : List LWay) (x : LWay), x ∈ S.map (pre (i + 1)) → ∀ q, (x.2 = true ∧ q = x.1) ∨ (x.2 = false ∧ ∃ k', InW (lw r (p2 i a e b + 1)) K k' ∧ q = x.1 ++ k') → ∃ k, InW S (ways f r (p2 i a e b + 1) K) k ∧ q = (i + 1) :: k := fun S x hx q h => by
      obtain ⟨y, hy, rfl⟩ := List.mem_map.mp hx
      rcases h with ⟨z, rfl⟩ | ⟨z, k', hk', rfl⟩
      · exact ⟨y.1, ⟨y, hy, .inl ⟨z, rfl⟩⟩, rfl⟩
      · exact ⟨y.1 ++ k', ⟨y, hy, .inr ⟨z, k', (ihr k').mpr hk', rfl⟩⟩, rfl⟩
    show q ∈ (ways f a (i + 1) (ways f r (p2 i a e b + 1) K)).map ((i + 1) :: ·) ++ (if e = true then ways f b (p1 i a + 1) (ways f r (p2 i a e b + 1) K) else ways f r (p2 i a e b + 1) K).map ((i + 1) :: ·) ↔ InW (comb (lTail i (lw a (i + 1)) (if e = true then lw b (p1 i a + 1) else [([], false)])) (lw r (p2 i a e b + 1))) K q
    rw [inW_comb]
    constructor
    · intro h
      rcases List.mem_append.mp h with z | z
      · obtain ⟨k, hk, rfl⟩ := List.mem_map.mp z
        obtain ⟨x, hx, hh⟩ := key _ k ((iha k).mp hk)
        exact ⟨x, List.mem_append_left _ hx, hh⟩
      · obtain ⟨k, hk, rfl⟩ := List.mem_map.mp z
        obtain ⟨x, hx, hh⟩ := key _ k ((ihb k).mp hk)
        exact ⟨x, List.mem_append_right _ hx, hh⟩
    · rintro ⟨x, hx, h⟩
      rcases List.mem_append.mp hx with z | z
      · obtain ⟨k, hk, rfl⟩ := back _ x z q h
        exact List.mem_append_left _ (List.mem_map.mpr ⟨k, (iha k).mpr hk, rfl⟩)
      · obtain ⟨k, hk, rfl⟩ := back _ x z q h
        exact List.mem_append_right _ (List.mem_map.mpr ⟨k, (ihb k).mpr hk, rfl⟩)
/-- no more than 2 ^ ifs -/
theorem lw_len : ∀ (b : Blk) (i : Nat), (lw b i).length ≤ 2 ^ b.ifs ∧ 1 ≤ (lw b i).length
  | nil, _ => ⟨Nat.le_refl _, Nat.le_refl _⟩
  | leaf s r, i => by
    obtain ⟨h1, h2⟩ := lw_len r (i + 1)
    show (comb [([i + 1], isQ s)] (lw r (i + 1))).length ≤ 2 ^ r.ifs ∧ 1 ≤ (comb [([i + 1], isQ s)] (lw r (i + 1))).length
    rw [len_comb]
    cases isQ s with
    | true =>
      have : 1 ≤ 2 ^ r.ifs := Nat.one_le_two_pow
      simp
      omega
    | false =>
      simp
      omega
  | iff t a e b r, i => by
    obtain ⟨h1, h2⟩ := lw_len r (p2 i a e b + 1)
    obtain ⟨h3, h4⟩ := lw_len a (i + 1)
    obtain ⟨h5, h6⟩ := lw_len b (p1 i a + 1)
    obtain ⟨u, hu⟩ : ∃ u, u = (if e = true then b.ifs else 0) := ⟨_, rfl⟩
    have hB : (if e = true then lw b (p1 i a + 1) else [([], false)]).length ≤ 2 ^ u := by
      rw [hu]
      cases e with
      | true => exact h5
      | false => exact Nat.le_refl _
    have hi : (iff t a e b r).ifs = a.ifs + u + r.ifs + 1 := by rw [hu]; rfl
    obtain ⟨T, hT⟩ : ∃ T, T = lTail i (lw a (i + 1)) (if e = true then lw b (p1 i a + 1) else [([], false)]) := ⟨_, rfl⟩
    have hTl : T.length = (lw a (i + 1)).length + (if e = true then lw b (p1 i a + 1) else [([], false)]).length := by
      rw [hT]
      unfold lTail
      rw [List.length_append, List.length_map, List.length_map]
    show (comb (lTail i (lw a (i + 1)) (if e = true then lw b (p1 i a + 1) else [([], false)])) (lw r (p2 i a e b + 1))).length ≤ _ ∧ 1 ≤ (comb (lTail i (lw a (i + 1)) (if e = true then lw b (p1 i a + 1) else [([], false)])) (lw r (p2 i a e b + 1))).length
    rw [← hT, len_comb, hi]
    have f := filter_len T
    have m1 : 2 ^ a.ifs ≤ 2 ^ (a.ifs + u) := Nat.pow_le_pow_right (by decide) (by omega)
    have m2 : 2 ^ u ≤ 2 ^ (a.ifs + u) := Nat.pow_le_pow_right (by decide) (by omega)
    have g1 : T.length ≤ 2 * 2 ^ (a.ifs + u) := by omega
    have hS : (T.filter (·.2)).length + (T.filter (!·.2)).length * (lw r (p2 i a e b + 1)).length ≤ T.length * (lw r (p2 i a e b + 1)).length := by
      rw [← f, Nat.add_mul]
      have : (T.filter (·.2)).length * 1 ≤ (T.filter (·.2)).length * (lw r (p2 i a e b + 1)).length := Nat.mul_le_mul_left _ h2
      omega
    have hL : (T.filter (·.2)).length + (T.filter (!·.2)).length ≤ (T.filter (·.2)).length + (T.filter (!·.2)).length * (lw r (p2 i a e b + 1)).length := by
      have : (T.filter (!·.2)).length * 1 ≤ (T.filter (!·.2)).length * (lw r (p2 i a e b + 1)).length := Nat.mul_le_mul_left _ h2
      omega
    refine ⟨Nat.le_trans hS (Nat.le_trans (Nat.mul_le_mul g1 h1) ?_), by omega⟩
    rw [Nat.pow_succ, Nat.pow_add 2 (a.ifs + u) r.ifs, Nat.mul_comm 2, Nat.mul_assoc, Nat.mul_assoc, Nat.mul_comm 2]
    exact Nat.le_refl _
end Blk
end K15

set_option Elab.async false
set_option linter.all false
set_option maxRecDepth 100000
set_option maxHeartbeats 8000000
/-! The law: its ways -/
namespace K15
open PySem L2
open K15D (TxtB)
open Blk (LWay lw comb)
def encL (x : LWay) : List V := intsV x.1 ++ (if x.2 = true then [V.int 0] else [])
def EncAt (H : Hp) : List Addr → List LWay → Prop := Paired fun a x => H a = some (.lst (encL x))
def quits : List Str := ["quit", "no"]
def WLineOk (s : Str) : Prop := LineOk s ∧ s.length ≤ 100
/-- leaves and ifs by their first signs -/
def Fronts : Blk → Prop := Blk.All (fun s => cutS s none (some 3) ≠ "if ") (fun t => cutS t none (some 3) = "if " ∧ t ∉ quits)
def spLW (K : PySem.W.Frag) (n : Nat) : Sp := fun vs H Q _ => ∃ (a : Addr) (ls pre post : List Str) (b : Blk), vs = [.ref a, .int ((pre.length + 1 : Nat) : Int), .int ((pre.length + 1 + b.size : Nat) : Int)] ∧ ls = pre ++ b.lines ++ post ∧ SqL K H a (ls.map V.str) ∧ b.Heads ∧ Fronts b ∧ b.size ≤ n ∧ ls.length ≤ 100 ∧ b.ifs ≤ 6 ∧ (∀ s ∈ ls, WLineOk s) ∧
  ∀ (R : Addr) (as : List Addr) (xs : List LWay) (H' : Hp), Same H H' → H' R = some (.lst (as.map V.ref)) → EncAt H' as xs → (∀ x, x ∈ xs ↔ x ∈ lw b pre.length) → xs.length = (lw b pre.length).length → Blk.open_ xs = Blk.open_ (lw b pre.length) → Q (.ref R) H'
theorem EncAt.keep {H H' : Hp} (s : Same H H') : ∀ {as : List Addr} {xs : List LWay}, EncAt H as xs → EncAt H' as xs
  | _, _, .nil => .nil
  | _, _, .cons h r => .cons (s _ _ h) (EncAt.keep s r)
theorem EncAt.snoc {H : Hp} {a : Addr} {x : LWay} (h : H a = some (.lst (encL x))) : ∀ {as : List Addr} {xs : List LWay}, EncAt H as xs → EncAt H (as ++ [a]) (xs ++ [x])
  | _, _, .nil => .cons h .nil
  | _, _, .cons e r => .cons e (EncAt.snoc h r)
theorem EncAt.app {H : Hp} : ∀ {as bs : List Addr} {xs ys : List LWay}, EncAt H as xs → EncAt H bs ys → EncAt H (as ++ bs) (xs ++ ys)
  | _, _, _, _, .nil, h => h
  | _, _, _, _, .cons e r, h => .cons e (EncAt.app r h)
theorem EncAt.write {H : Hp} {a : Addr} {o : HO} : ∀ {as : List Addr} {xs : List LWay}, EncAt H as xs → a ∉ as → EncAt (upd H a o) as xs
  | _, _, .nil, _ => .nil
  | _, _, .cons h r, ha => .cons (by rw [upd_ne (fun z => ha (by rw [z]; exact List.mem_cons_self ..))]; exact h) (EncAt.write r fun z => ha (List.mem_cons_of_mem _ z))
theorem open_app (X Y : List LWay) : Blk.open_ (X ++ Y) = Blk.open_ X + Blk.open_ Y := by
  unfold Blk.open_
  rw [List.filter_append, List.length_append]
theorem open_pre (n : Nat) (X : List LWay) : Blk.open_ (X.map (Blk.pre n)) = Blk.open_ X := by
  unfold Blk.open_
  rw [List.filter_map, List.length_map]
  rfl
/-- what the suite of an if is asked for: the tails and the end -/
def TailsAt (G : Hp) (T : Addr) (S : List LWay) : Prop := ∃ ts xs, G T = some (.lst (ts.map V.ref)) ∧ EncAt G ts xs ∧ (∀ x, x ∈ xs ↔ x ∈ S) ∧ xs.length = S.length ∧ Blk.open_ xs = Blk.open_ S
theorem TailsAt.keep {G G' : Hp} {T : Addr} {S : List LWay} (h : TailsAt G T S) (s : Same G G') : TailsAt G' T S := by
  obtain ⟨ts, xs, h1, h2, h3⟩ := h
  exact ⟨ts, xs, s _ _ h1, h2.keep s, h3⟩
theorem lw_wlen : ∀ (b : Blk) (i : Nat), ∀ x ∈ lw b i, x.1.length ≤ b.size
  | .nil, i, x, h => by
    rw [List.mem_singleton.mp h]
    exact Nat.le_refl _
  | .leaf s r, i, x, h => by
    have z : (Blk.leaf s r).size = r.size + 1 := rfl
    rcases Blk.mem_comb.mp h with ⟨h1, _⟩ | ⟨u, hu, _, v, hv, rfl⟩
    · rw [List.mem_singleton.mp h1, z]
      show 1 ≤ _
      omega
    · rw [List.mem_singleton.mp hu, z]
      have := lw_wlen r (i + 1) v hv
      show ([i + 1] ++ v.1).length ≤ _
      rw [List.length_append]
      show 1 + v.1.length ≤ _
      omega
  | .iff t a e b r, i, x, h => by
    have z : (Blk.iff t a e b r).size = a.size + (if e = true then b.size + 1 else 0) + r.size + 2 := rfl
    have tl : ∀ u ∈ Blk.lTail i (lw a (i + 1)) (if e = true then lw b (Blk.p1 i a + 1) else [([], false)]), u.1.length ≤ a.size + (if e = true then b.size + 1 else 0) + 1 := fun u hu => by
      rcases List.mem_append.mp hu with q | q
      · obtain ⟨y, hy, rfl⟩ := List.mem_map.mp q
        have := lw_wlen a (i + 1) y hy
        show y.1.length + 1 ≤ _
        omega
      · obtain ⟨y, hy, rfl⟩ := List.mem_map.mp q
        show y.1.length + 1 ≤ _
        cases e with
        | true =>
          have := lw_wlen b _ y hy
          show _ ≤ a.size + (b.size + 1) + 1
          omega
        | false =>
          rw [List.mem_singleton.mp hy]
          show 0 + 1 ≤ _
          omega
    rcases Blk.mem_comb.mp h with ⟨h1, _⟩ | ⟨u, hu, _, v, hv, rfl⟩
    · have := tl x h1
      rw [z]
      omega
    · have q1 := tl u hu
      have q2 := lw_wlen r _ v hv
      rw [z]
      show (u.1 ++ v.1).length ≤ _
      rw [List.length_append]
      omega
theorem encL_len (x : LWay) : (encL x).length ≤ x.1.length + 1 := by
  unfold encL intsV
  rw [List.length_append, List.length_map]
  cases x.2 <;> simp
theorem lc_pre {K : PySem.W.Frag} {R D : Addr} {as : List Addr} {xs : List LWay} {G : Hp} {σ : L2.St} {l : Nat} {Qd : Hp → Prop} (h4 : σ[4]? = some (some (.int ((l + 1 : Nat) : Int)))) (hσ : 10 < σ.length) (hR : G R = some (.lst (as.map V.ref))) (hE : EncAt G as xs) (hl : as.length ≤ 100) (hw : ∀ x ∈ xs, (encL x).length ≤ 900) (nD : G D = none)
    (hq : ∀ G2 zs, Same G G2 → G2 D = some (.lst (zs.map V.ref)) → EncAt G2 zs (xs.map (Blk.pre (l + 1))) → Qd G2) :
    ∃ W : Nat → Nat → Hp → Prop, (∃ m, W 0 m (upd G D (.lst []))) ∧ ∀ i m H, W i m H →
      ((Itl K R).stop i H ∧ Qd H) ∨ ((Itl K R).go i H ∧ ∃ Nx : Hp → Prop, (∀ H', Nx H' → ∃ m', m' < m ∧ W (i + 1) m' H') ∧ ∀ x H', (Itl K R).yld i H x H' → gName 10 x (wipe σ [10]) H' fun σ2 H2 => wipe σ2 [10] = wipe σ [10] ∧ tYes σ2 H2 fun b H3 =>
        if b = true then (tOp rCat (tLst (tCons (tVar 4) tNil)) (tVar 10)) σ2 H3 fun y H4 => ∃ acc, H4 D = some (.lst acc) ∧ acc.length < sizeLine ∧ Nx (upd H4 D (.lst (acc ++ [y]))) else Nx H3) := by
  refine lc_list (K := K) (a := R) (xs := as.map V.ref) (fun i G2 => Same G G2 ∧ ∃ zs : List Addr, G2 D = some (.lst (zs.map V.ref)) ∧ EncAt G2 zs ((xs.take i).map (Blk.pre (l + 1))) ∧ D ∉ zs) ⟨Same.new nD, [], upd_same, .nil, fun z => nomatch z⟩ (fun i G2 _ ⟨e, _⟩ => SqL.of (e _ _ hR)) ?_ ?_
  · rintro i y G2 hi ⟨s5, zs, hD5, hzs, hDz⟩
    obtain ⟨aw, haw, rfl⟩ : ∃ aw, as[i]? = some aw ∧ y = V.ref aw := by
      rw [List.getElem?_map] at hi
      cases e : as[i]? with
      | none => rw [e] at hi; cases hi
      | some z => rw [e] at hi; exact ⟨z, rfl, (Option.some.inj hi).symm⟩
    obtain ⟨wx, hwx, gaw⟩ := Paired.get hE haw
    have hil := (List.getElem?_eq_some_iff.mp haw).1
    refine ⟨?_, ?_⟩
    · show ((σ.set 10 none).set 10 (some (V.ref aw))).set 10 none = σ.set 10 none
      rw [List.set_set, List.set_set]
    unfold tYes
    refine iteT ?_
    have e4 : ((σ.set 10 none).set 10 (some (V.ref aw)))[4]? = some (some (V.int ((l + 1 : Nat) : Int))) := by
      rw [List.getElem?_set_ne (by decide), List.getElem?_set_ne (by decide)]
      exact h4
    have e10 : ((σ.set 10 none).set 10 (some (V.ref aw)))[10]? = some (some (V.ref aw)) := by
      rw [List.getElem?_set_self (by rw [List.length_set]; exact hσ)]
    refine ⟨_, e4, (by show 1 ≤ sizeLine; decide), fun q1 nq1 => ?_⟩
    have sq1 := Same.new (o := .lst [.int ((l + 1 : Nat) : Int)]) nq1
    refine ⟨_, e10, q1, aw, _, _, rfl, rfl, upd_same, sq1 _ _ (s5 _ _ gaw), ?_, fun q2 nq2 => ?_⟩
    · have := hw wx (List.mem_of_getElem? hwx)
      exact Nat.le_of_lt (small1000 (by show 1 + (encL wx).length ≤ 1000; omega))
    have sq2 := Same.new (o := .lst ([.int ((l + 1 : Nat) : Int)] ++ encL wx)) nq2
    have s6 := sq1.trans sq2
    have hzl : zs.length ≤ 100 := by
      have h1 : zs.length = ((xs.take i).map (Blk.pre (l + 1))).length := Paired.length hzs
      rw [h1, List.length_map, List.length_take]
      omega
    have eD := s6 _ _ hD5
    refine ⟨_, eD, small1000 (by rw [List.length_map]; omega), Same.write (s5.trans s6) nD, zs ++ [q2], by rw [List.map_append]; exact upd_same, ?_, fun z => ?_⟩
    · rw [take_more hwx, List.map_append]
      have nDq : q2 ≠ D := (ne_of_none (sq1 _ _ hD5) nq2).symm
      exact EncAt.snoc (by rw [upd_ne nDq]; exact upd_same) ((hzs.keep s6).write hDz)
    · rcases List.mem_append.mp z with e | e
      · exact hDz e
      · exact ne_of_none (sq1 _ _ hD5) nq2 (List.mem_singleton.mp e)
  · rintro G2 ⟨s5, zs, hD5, hzs, _⟩
    have hlx : as.length = xs.length := Paired.length hE
    rw [List.length_map, hlx, List.take_length] at hzs
    exact hq G2 zs s5 hD5 hzs
def encI (x : LWay) : List Int := (x.1.map fun n => ((n : Nat) : Int)) ++ (if x.2 = true then [0] else [])
theorem encL_I (x : LWay) : encL x = intL (encI x) := by
  unfold encL encI intL intsV
  rw [List.map_append, List.map_map]
  cases x.2 <;> rfl
theorem eqvIs : ∀ (ws us : List Int), PyData.eqvAll (ws.map PyData.int) (us.map PyData.int) = decide (ws = us)
  | [], [] => rfl
  | [], u :: us => by simp [PyData.eqvAll]
  | w :: ws, [] => by simp [PyData.eqvAll]
  | w :: ws, u :: us => by
    rw [List.map_cons, List.map_cons, PyData.eqvAll, eqvIs ws us]
    by_cases e : w = u
    · subst e
      by_cases e2 : ws = us
      · subst e2
        simp [PyData.eqv]
      · simp [PyData.eqv, e2]
    · simp [PyData.eqv, e]
theorem eqvI (ws us : List Int) : PyData.eqv (.list (ws.map PyData.int)) (.list (us.map PyData.int)) = decide (ws = us) := by
  rw [PyData.eqv]
  exact eqvIs ws us
def lastI (x : LWay) : List Int := (encI x).drop ((encI x).length - 1)
theorem lastI_eq {x : LWay} (h : ∀ n ∈ x.1, 1 ≤ n) : decide (lastI x = [0]) = x.2 := by
  obtain ⟨w, e⟩ := x
  unfold lastI encI
  cases e with
  | true =>
    refine decide_eq_true ?_
    rw [if_pos rfl, List.length_append, List.length_map]
    show List.drop (w.length + 1 - 1) ((w.map fun n => ((n : Nat) : Int)) ++ [0]) = [0]
    rw [Nat.add_sub_cancel]
    exact List.drop_left' (List.length_map _)
  | false =>
    rw [if_neg Bool.false_ne_true, List.append_nil, List.length_map]
    refine decide_eq_false fun z => ?_
    have hm : (0 : Int) ∈ (w.map fun n => ((n : Nat) : Int)).drop (w.length - 1) := by rw [z]; exact List.mem_singleton.mpr rfl
    obtain ⟨n, hn, e⟩ := List.mem_map.mp (List.mem_of_mem_drop hm)
    have := h n hn
    omega
theorem cut_last (ys : List Int) : cutV (intL ys) (some (-1)) none = intL (ys.drop (ys.length - 1)) := by
  have e1 : HT.sIx (intL ys).length 0 (some (-1)) = ys.length - 1 := by
    unfold intL
    rw [List.length_map]
    show (if (-1 : Int) < 0 then ((-1 : Int) + (ys.length : Int)).toNat else min (-1 : Int).toNat ys.length) = ys.length - 1
    rw [if_pos (by decide)]
    omega
  unfold cutV
  rw [e1, HT.sIx_none]
  unfold intL
  rw [List.length_map, List.map_drop, List.take_of_length_le (by rw [List.length_drop, List.length_map]; omega)]
theorem lw_pos : ∀ (b : Blk) (i : Nat), ∀ x ∈ lw b i, ∀ n ∈ x.1, 1 ≤ n
  | .nil, i, x, h => by
    rw [List.mem_singleton.mp h]
    intro n hn
    cases hn
  | .leaf s r, i, x, h => by
    rcases Blk.mem_comb.mp h with ⟨h1, _⟩ | ⟨u, hu, _, v, hv, rfl⟩
    · rw [List.mem_singleton.mp h1]
      intro n hn
      rw [List.mem_singleton.mp hn]
      omega
    · rw [List.mem_singleton.mp hu]
      intro n hn
      rcases List.mem_append.mp hn with z | z
      · rw [List.mem_singleton.mp z]
        omega
      · exact lw_pos r (i + 1) v hv n z
  | .iff t a e b r, i, x, h => by
    have tl : ∀ u ∈ Blk.lTail i (lw a (i + 1)) (if e = true then lw b (Blk.p1 i a + 1) else [([], false)]), ∀ n ∈ u.1, 1 ≤ n := fun u hu n hn => by
      rcases List.mem_append.mp hu with q | q
      · obtain ⟨y, hy, rfl⟩ := List.mem_map.mp q
        rcases List.mem_cons.mp hn with z | z
        · omega
        · exact lw_pos a _ y hy n z
      · obtain ⟨y, hy, rfl⟩ := List.mem_map.mp q
        rcases List.mem_cons.mp hn with z | z
        · omega
        · cases e with
          | true => exact lw_pos b _ y hy n z
          | false =>
            rw [List.mem_singleton.mp hy] at z
            cases z
    rcases Blk.mem_comb.mp h with ⟨h1, _⟩ | ⟨u, hu, _, v, hv, rfl⟩
    · exact tl x h1
    · intro n hn
      rcases List.mem_append.mp hn with z | z
      · exact tl u hu n z
      · exact lw_pos r _ v hv n z
theorem lc_fil {K : PySem.W.Frag} {R D : Addr} {as : List Addr} {xs : List LWay} {G : Hp} {σ : L2.St} {Qd : Hp → Prop} {sel : Bool → Bool} {rr : R2} (hrr : ∀ x y H Q, (∃ d e, Dp K H x d ∧ Dp K H y e ∧ SeqAt.shaped d = true ∧ SeqAt.shaped e = true ∧ Q (.bl (sel (PyData.eqv d e))) H) → rr x y H Q)
    (hσ : 10 < σ.length) (hR : G R = some (.lst (as.map V.ref))) (hE : EncAt G as xs) (hl : as.length ≤ 100) (hw : ∀ x ∈ xs, ∀ n ∈ x.1, 1 ≤ n) (nD : G D = none)
    (hq : ∀ G2 zs, Same G G2 → G2 D = some (.lst (zs.map V.ref)) → EncAt G2 zs (xs.filter fun x => sel x.2) → Qd G2) :
    ∃ W : Nat → Nat → Hp → Prop, (∃ m, W 0 m (upd G D (.lst []))) ∧ ∀ i m H, W i m H →
      ((Itl K R).stop i H ∧ Qd H) ∨ ((Itl K R).go i H ∧ ∃ Nx : Hp → Prop, (∀ H', Nx H' → ∃ m', m' < m ∧ W (i + 1) m' H') ∧ ∀ x H', (Itl K R).yld i H x H' → gName 10 x (wipe σ [10]) H' fun σ2 H2 => wipe σ2 [10] = wipe σ [10] ∧ (tTest (tOp rr (tSl (rSlL K) (tVar 10) (tPart (tUn (rU fun i => V.int (-i)) (tC (V.int 1)))) tNoPart) (tLst (tCons (tC (V.int 0)) tNil)))) σ2 H2 fun b H3 =>
        if b = true then (tVar 10) σ2 H3 fun y H4 => ∃ acc, H4 D = some (.lst acc) ∧ acc.length < sizeLine ∧ Nx (upd H4 D (.lst (acc ++ [y]))) else Nx H3) := by
  refine lc_list (K := K) (a := R) (xs := as.map V.ref) (fun i G2 => Same G G2 ∧ ∃ zs : List Addr, G2 D = some (.lst (zs.map V.ref)) ∧ EncAt G2 zs ((xs.take i).filter fun x => sel x.2) ∧ D ∉ zs) ⟨Same.new nD, [], upd_same, .nil, fun z => nomatch z⟩ (fun i G2 _ ⟨e, _⟩ => SqL.of (e _ _ hR)) ?_ ?_
  · rintro i y G2 hi ⟨s5, zs, hD5, hzs, hDz⟩
    obtain ⟨aw, haw, rfl⟩ : ∃ aw, as[i]? = some aw ∧ y = V.ref aw := by
      rw [List.getElem?_map] at hi
      cases e : as[i]? with
      | none => rw [e] at hi; cases hi
      | some z => rw [e] at hi; exact ⟨z, rfl, (Option.some.inj hi).symm⟩
    obtain ⟨wx, hwx, gaw⟩ := Paired.get hE haw
    have hil := (List.getElem?_eq_some_iff.mp haw).1
    have gw2 := s5 _ _ gaw
    rw [encL_I] at gw2
    refine ⟨?_, ?_⟩
    · show ((σ.set 10 none).set 10 (some (V.ref aw))).set 10 none = σ.set 10 none
      rw [List.set_set, List.set_set]
    have e10 : ((σ.set 10 none).set 10 (some (V.ref aw)))[10]? = some (some (V.ref aw)) := by
      rw [List.getElem?_set_self (by rw [List.length_set]; exact hσ)]
    refine ⟨_, e10, _, rfl, _, rfl, aw, _, rfl, SqL.of gw2, fun q nq => ?_⟩
    rw [cut_last]
    have sq := Same.new (o := .lst (intL (lastI wx))) nq
    refine ⟨(by show 1 ≤ sizeLine; decide), fun q2 nq2 => ?_⟩
    have sq2 := Same.new (o := .lst [V.int 0]) nq2
    have s6 := sq.trans sq2
    refine hrr _ _ _ _ ⟨.list ((lastI wx).map PyData.int), .list (([0] : List Int).map PyData.int), .lst (SqL.of (sq2 _ _ upd_same)) (dpInts _), .lst (SqL.of (xs := intL [0]) upd_same) (dpInts _), shapedInts _, shapedInts _, ?_⟩
    rw [eqvI, lastI_eq (hw wx (List.mem_of_getElem? hwx))]
    refine ⟨_, rfl, ?_⟩
    have eD := s6 _ _ hD5
    have hzl : zs.length ≤ 100 := by
      have h1 : zs.length = ((xs.take i).filter fun x => sel x.2).length := Paired.length hzs
      have h2 := List.length_filter_le (fun x : LWay => sel x.2) (xs.take i)
      rw [List.length_take] at h2
      omega
    cases hs : sel wx.2 with
    | false =>
      refine iteF ?_
      refine ⟨s5.trans s6, zs, eD, ?_, hDz⟩
      rw [take_more hwx, List.filter_append, List.filter_cons_of_neg (by rw [hs]; decide), List.filter_nil, List.append_nil]
      exact hzs.keep s6
    | true =>
      refine iteT ?_
      refine ⟨_, e10, _, eD, small1000 (by rw [List.length_map]; omega), Same.write (s5.trans s6) nD, zs ++ [aw], by rw [List.map_append]; exact upd_same, ?_, fun z => ?_⟩
      · have nDa : aw ≠ D := ne_of_none gaw nD
        rw [take_more hwx, List.filter_append, List.filter_cons_of_pos (by rw [hs]), List.filter_nil]
        refine EncAt.snoc ?_ ((hzs.keep s6).write hDz)
        rw [upd_ne nDa]
        exact s6 _ _ (s5 _ _ gaw)
      · rcases List.mem_append.mp z with e | e
        · exact hDz e
        · exact (ne_of_none gaw nD) (List.mem_singleton.mp e).symm
  · rintro G2 ⟨s5, zs, hD5, hzs, _⟩
    have hlx : as.length = xs.length := Paired.length hE
    rw [List.length_map, hlx, List.take_length] at hzs
    exact hq G2 zs s5 hD5 hzs
theorem enc_app (w : List Nat) (v : LWay) : encL (w, false) ++ encL v = encL (w ++ v.1, v.2) := by
  unfold encL intsV
  rw [if_neg Bool.false_ne_true, List.append_nil, List.map_append, List.append_assoc]
theorem lc_cat {K : PySem.W.Frag} {R D aw : Addr} {as : List Addr} {xs : List LWay} {G : Hp} {σ : L2.St} {w : List Nat} {Qd : Hp → Prop} (h10 : σ[10]? = some (some (.ref aw))) (hσ : 11 < σ.length) (hA : G aw = some (.lst (encL (w, false)))) (hR : G R = some (.lst (as.map V.ref))) (hE : EncAt G as xs) (hl : as.length ≤ 100) (hww : (encL (w, false)).length ≤ 400) (hw : ∀ x ∈ xs, (encL x).length ≤ 400) (nD : G D = none)
    (hq : ∀ G2 zs, Same G G2 → G2 D = some (.lst (zs.map V.ref)) → EncAt G2 zs (xs.map fun v => ((w ++ v.1, v.2) : LWay)) → Qd G2) :
    ∃ W : Nat → Nat → Hp → Prop, (∃ m, W 0 m (upd G D (.lst []))) ∧ ∀ i m H, W i m H →
      ((Itl K R).stop i H ∧ Qd H) ∨ ((Itl K R).go i H ∧ ∃ Nx : Hp → Prop, (∀ H', Nx H' → ∃ m', m' < m ∧ W (i + 1) m' H') ∧ ∀ x H', (Itl K R).yld i H x H' → gName 11 x (wipe σ [11]) H' fun σ2 H2 => wipe σ2 [11] = wipe σ [11] ∧ tYes σ2 H2 fun b H3 =>
        if b = true then (tOp rCat (tVar 10) (tVar 11)) σ2 H3 fun y H4 => ∃ acc, H4 D = some (.lst acc) ∧ acc.length < sizeLine ∧ Nx (upd H4 D (.lst (acc ++ [y]))) else Nx H3) := by
  refine lc_list (K := K) (a := R) (xs := as.map V.ref) (fun i G2 => Same G G2 ∧ ∃ zs : List Addr, G2 D = some (.lst (zs.map V.ref)) ∧ EncAt G2 zs ((xs.take i).map fun v => ((w ++ v.1, v.2) : LWay)) ∧ D ∉ zs) ⟨Same.new nD, [], upd_same, .nil, fun z => nomatch z⟩ (fun i G2 _ ⟨e, _⟩ => SqL.of (e _ _ hR)) ?_ ?_
  · rintro i y G2 hi ⟨s5, zs, hD5, hzs, hDz⟩
    obtain ⟨av, hav, rfl⟩ : ∃ av, as[i]? = some av ∧ y = V.ref av := by
      rw [List.getElem?_map] at hi
      cases e : as[i]? with
      | none => rw [e] at hi; cases hi
      | some z => rw [e] at hi; exact ⟨z, rfl, (Option.some.inj hi).symm⟩
    obtain ⟨wx, hwx, gav⟩ := Paired.get hE hav
    have hil := (List.getElem?_eq_some_iff.mp hav).1
    refine ⟨?_, ?_⟩
    · show ((σ.set 11 none).set 11 (some (V.ref av))).set 11 none = σ.set 11 none
      rw [List.set_set, List.set_set]
    unfold tYes
    refine iteT ?_
    have e10 : ((σ.set 11 none).set 11 (some (V.ref av)))[10]? = some (some (V.ref aw)) := by
      rw [List.getElem?_set_ne (by decide), List.getElem?_set_ne (by decide)]
      exact h10
    have e11 : ((σ.set 11 none).set 11 (some (V.ref av)))[11]? = some (some (V.ref av)) := by
      rw [List.getElem?_set_self (by rw [List.length_set]; exact hσ)]
    refine ⟨_, e10, _, e11, aw, av, _, _, rfl, rfl, s5 _ _ hA, s5 _ _ gav, ?_, fun q2 nq2 => ?_⟩
    · have := hw wx (List.mem_of_getElem? hwx)
      exact Nat.le_of_lt (small1000 (by omega))
    rw [enc_app]
    have s6 := Same.new (o := .lst (encL (w ++ wx.1, wx.2))) nq2
    have hzl : zs.length ≤ 100 := by
      have h1 : zs.length = ((xs.take i).map fun v => ((w ++ v.1, v.2) : LWay)).length := Paired.length hzs
      rw [h1, List.length_map, List.length_take]
      omega
    have eD := s6 _ _ hD5
    refine ⟨_, eD, small1000 (by rw [List.length_map]; omega), Same.write (s5.trans s6) nD, zs ++ [q2], by rw [List.map_append]; exact upd_same, ?_, fun z => ?_⟩
    · rw [take_more hwx, List.map_append]
      have nDq : q2 ≠ D := (ne_of_none hD5 nq2).symm
      exact EncAt.snoc (by rw [upd_ne nDq]; exact upd_same) ((hzs.keep s6).write hDz)
    · rcases List.mem_append.mp z with e | e
      · exact hDz e
      · exact ne_of_none hD5 nq2 (List.mem_singleton.mp e)
  · rintro G2 ⟨s5, zs, hD5, hzs, _⟩
    have hlx : as.length = xs.length := Paired.length hE
    rw [List.length_map, hlx, List.take_length] at hzs
    exact hq G2 zs s5 hD5 hzs
structure Sim (X Y : List LWay) : Prop where
  mem : ∀ x, x ∈ X ↔ x ∈ Y
  len : X.length = Y.length
  op : Blk.open_ X = Blk.open_ Y
theorem Sim.rfl (X : List LWay) : Sim X X := ⟨fun _ => Iff.rfl, Eq.refl _, Eq.refl _⟩
theorem Sim.trans {X Y Z : List LWay} (h : Sim X Y) (k : Sim Y Z) : Sim X Z := ⟨fun x => (h.mem x).trans (k.mem x), h.len.trans k.len, h.op.trans k.op⟩
theorem Sim.cmb {X X' S : List LWay} (h : Sim X X') : Sim (comb X S) (comb X' S) := by
  refine ⟨fun x => ?_, ?_, by rw [Blk.open_comb, Blk.open_comb, h.op]⟩
  · rw [Blk.mem_comb, Blk.mem_comb]
    constructor
    · rintro (⟨h1, h2⟩ | ⟨u, hu, r⟩)
      · exact .inl ⟨(h.mem x).mp h1, h2⟩
      · exact .inr ⟨u, (h.mem u).mp hu, r⟩
    · rintro (⟨h1, h2⟩ | ⟨u, hu, r⟩)
      · exact .inl ⟨(h.mem x).mpr h1, h2⟩
      · exact .inr ⟨u, (h.mem u).mpr hu, r⟩
  · have f1 := Blk.filter_len X
    have f2 := Blk.filter_len X'
    have l := h.len
    have o := h.op
    unfold Blk.open_ at o
    rw [Blk.len_comb, Blk.len_comb, o]
    omega
theorem Sim.assoc (F T S : List LWay) : Sim (comb (comb F T) S) (comb F (comb T S)) := ⟨fun _ => Blk.comb_assoc, Blk.len_assoc F T S, by rw [Blk.open_comb, Blk.open_comb, Blk.open_comb, Blk.open_comb, Nat.mul_assoc]⟩
theorem comb_one (F : List LWay) : Sim (comb F [([], false)]) F := by
  refine ⟨fun x => ?_, ?_, ?_⟩
  · rw [Blk.mem_comb]
    constructor
    · rintro (h | ⟨u, hu, h2, v, hv, rfl⟩)
      · exact h.1
      · rw [List.mem_singleton.mp hv, List.append_nil]
        obtain ⟨w, e⟩ := u
        have e' : e = false := h2
        rw [e'] at hu
        exact hu
    · intro h
      obtain ⟨w, e⟩ := x
      cases e with
      | true => exact .inl ⟨h, Eq.refl _⟩
      | false => exact .inr ⟨(w, false), h, Eq.refl _, _, List.mem_singleton.mpr (Eq.refl _), by rw [List.append_nil]⟩
  · have := Blk.filter_len F
    rw [Blk.len_comb]
    show _ + _ * 1 = _
    omega
  · rw [Blk.open_comb]
    exact Nat.mul_one _
theorem comb_bound {F S : List LWay} (hS : 1 ≤ S.length) {x : LWay} (hx : x ∈ F) : ∃ y ∈ comb F S, (∀ n ∈ x.1, n ∈ y.1) ∧ x.1.length ≤ y.1.length := by
  obtain ⟨w, e⟩ := x
  cases e with
  | true => exact ⟨(w, true), Blk.mem_comb.mpr (.inl ⟨hx, Eq.refl _⟩), fun n h => h, Nat.le_refl _⟩
  | false =>
    obtain ⟨v, hv⟩ : ∃ v, v ∈ S := by
      cases S with
      | nil => exact absurd hS (by decide)
      | cons v S => exact ⟨v, List.mem_cons_self ..⟩
    refine ⟨(w ++ v.1, v.2), Blk.mem_comb.mpr (.inr ⟨(w, false), hx, Eq.refl _, v, hv, Eq.refl _⟩), fun n h => List.mem_append_left _ h, ?_⟩
    show w.length ≤ (w ++ v.1).length
    rw [List.length_append]
    omega
theorem comb_le {F S : List LWay} (hS : 1 ≤ S.length) : F.length ≤ (comb F S).length := by
  have f := Blk.filter_len F
  have : (F.filter (!·.2)).length * 1 ≤ (F.filter (!·.2)).length * S.length := Nat.mul_le_mul_left _ hS
  rw [Blk.len_comb]
  omega
section
variable {P : Program} {w : World} {K : PySem.W.Frag} {mg : Str → Option Value} {base : Heap}
abbrev nmLW : List Str := ["_law_lines_here", "_law_first", "_law_last", "_law_found", "_law_line", "_law_tails", "_law_end", "_law_other", "_law_begin", "_law_longer", "_law_way", "_law_tail"]
theorem scLW : FnScope nmLW ["_law_lines_here", "_law_first", "_law_last"] (defScope sLWays) := ⟨rfl, rfl, rfl, by decide +kernel, rfl, by decide +kernel, by decide +kernel⟩
abbrev wLoop : Stmt := (defBody sLWays).getD 1 passS
abbrev wIf : Stmt := (wBody wLoop).getD 1 passS
abbrev wFor : Stmt := (wBody wLoop).getD 3 passS
example : (wBody wLoop).length = 5 := rfl
theorem ok_lw {f fB : Addr} {fd fdB : FuncData} (F : Fun K "_law_ways" "_law_ways" sLWays f fd) (T : TxtB mg)
    (GB : FnOk P w K mg base CX0 1 fB fdB ["_law_lines_here", "_law_at"] (spLBlock K)) (kB : PySem.W.keepIn K (.ref fB) = true) (bB : Binds K fdB ["_law_lines_here", "_law_at"] []) (gB : mg "_law_block" = some (.ref fB))
    (gf : mg "_law_ways" = some (.ref f)) (bf : Binds K fd ["_law_lines_here", "_law_first", "_law_last"] []) (n : Nat)
    (ihh : ∀ k, n = k + 1 → FnOk P w K mg base CX0 (k + 2) f fd ["_law_lines_here", "_law_first", "_law_last"] (spLW K k)) : FnOk P w K mg base CX0 (n + 2) f fd ["_law_lines_here", "_law_first", "_law_last"] (spLW K n) := by
  refine F.ok scLW (fun vs H Q E h => ?_) (fun cdv A outer s H vs Q E hr h => ?_)
  · obtain ⟨a, ls, pre, post, b, rfl, _⟩ := h
    rfl
  · obtain ⟨a, ls, pre, post, b, rfl, hls, ha, hH, hF, hn, hll, hif, hok, k⟩ := h
    have hr1 : Room 1 _ := hr.mono (by omega)
    obtain ⟨tI, pI, rI⟩ : ∃ tI, PSs (cxOf CX0 P w K mg base nmLW "_law_ways" (defScope sLWays) f cdv A outer s H E).nox (ifBody wIf) tI ∧
        ∀ (D : Ends) (G : Hp) (Fd : Addr) (t : Str) (A : Blk) (e : Bool) (B r : Blk) (pr po : List Str) (l : Nat) (v5 v6 v7 v8 v9 v10 v11 : Option V), Same H G → ls = pr ++ (Blk.iff t A e B r).lines ++ po → pr.length = l → (Blk.iff t A e B r).Heads → Fronts (Blk.iff t A e B r) → (Blk.iff t A e B r).size ≤ n → (Blk.iff t A e B r).ifs ≤ 6 →
          (∀ (G2 : Hp) (T : Addr) (v7 v8 v10 : Option V), Same G G2 → TailsAt G2 T (Blk.lTail l (lw A (l + 1)) (if e = true then lw B (Blk.p1 l A + 1) else [([], false)])) → D.nx [some (.ref a), some (.int ((pre.length + 1 : Nat) : Int)), some (.int ((pre.length + 1 + b.size : Nat) : Int)), some (.ref Fd), some (.int ((l + 1 : Nat) : Int)), some (.ref T), some (.int ((Blk.p2 l A e B + 1 : Nat) : Int)), v7, v8, v9, v10, v11] G2) →
          tI D [some (.ref a), some (.int ((pre.length + 1 : Nat) : Int)), some (.int ((pre.length + 1 + b.size : Nat) : Int)), some (.ref Fd), some (.int ((l + 1 : Nat) : Int)), v5, v6, v7, v8, v9, v10, v11] G := by
      cases n with
      | zero => exact ⟨_, PSs.ghost, fun D G Fd t A e B r pr po l v5 v6 v7 v8 v9 v10 v11 _ _ _ _ _ z => absurd z (by show ¬ A.size + _ + _ + 2 ≤ 0; omega)⟩
      | succ n =>
      have ih := ihh n rfl
      have hrn : Room (n + 2) _ := hr.mono (by omega)
      refine ⟨_, pss_cons (ps_asg (pe_call GB hr1 rfl gB kB bB .nil pass0 (pa_cons (pv 0) (pa_cons (pv 4) pa_nil))) (pg_tup rfl (pgs_cons (pg_name (i := 7) scLW.nd rfl (.inl rfl)) (pgs_cons (pg_name (i := 6) scLW.nd rfl (.inl rfl)) pgs_nil))))
        (pss_cons (ps_set (i := 8) scLW.nd rfl (.inl rfl) (pe_ifExp (pt_cmpR op_gt (pv 7) pe_int (nomark _)) (pv 7) (pv 6)))
        (pss_cons (ps_setLc (i := 5) (own := [("_law_way", 10)]) (g := gName 10) (te := tOp rCat (tLst (tCons (tVar 4) tNil)) (tVar 10)) rfl scLW.nd rfl rfl (sw_true rfl rfl rfl (by decide +kernel)) (by exact pi_list (pe_call ih hrn rfl gf F.kp bf .nil pass0 (pa_cons (pv 0) (pa_cons (pe_op op_add (pv 4) pe_int) (pa_cons (pv 8) pa_nil))))) (blkOk_by (own := [("_law_way", 10)]) (N := nmLW) (sc := defScope sLWays) (by decide +kernel)) (fun _ _ _ _ _ => pg_name (i := 10) scLW.nd rfl (Or.inl rfl)) (fun _ _ _ _ _ => pts_nil) (fun _ _ _ _ _ => by exact (pe_op op_cat (pe_lst (pa_cons (pv 4) pa_nil)) (pv 10))))
        (pss_one (ps_set (i := 5) scLW.nd rfl (.inl rfl) (pe_op op_cat (pv 5)
          (pe_lc (own := [("_law_way", 10)]) (g := gName 10) (te := tOp rCat (tLst (tCons (tVar 4) tNil)) (tVar 10)) rfl scLW.nd (by exact pi_list (pe_call ih hrn rfl gf F.kp bf .nil pass0 (pa_cons (pv 0) (pa_cons (pe_op op_add (pv 8) (pe_callTy call_int1 (by rfl) T.int (by decide +kernel) (pa_cons (pe_cmpR op_gt (pv 7) pe_int (nomark _)) pa_nil))) (pa_cons (pv 6) pa_nil))))) (blkOk_by (own := [("_law_way", 10)]) (N := nmLW) (sc := defScope sLWays) (by decide +kernel)) (fun _ _ _ _ _ => pg_name (i := 10) scLW.nd rfl (Or.inl rfl)) (fun _ _ _ _ _ => pts_nil) (fun _ _ _ _ _ => by exact (pe_op op_cat (pe_lst (pa_cons (pv 4) pa_nil)) (pv 10))))))))), ?_⟩
      intro D G Fd t A e B r pr po l v5 v6 v7 v8 v9 v10 v11 hG hlsE hpl hHd hFr hsz hifs hnx
      have hsE : (Blk.iff t A e B r).size = A.size + (if e = true then B.size + 1 else 0) + r.size + 2 := rfl
      have hiE : (Blk.iff t A e B r).ifs = A.ifs + (if e = true then B.ifs else 0) + r.ifs + 1 := rfl
      obtain ⟨hH1, hH2, hH3, hH4⟩ := id hHd
      obtain ⟨hF1, hF2, hF3, hF4⟩ := id hFr
      have hllen : ls.length = pr.length + (Blk.iff t A e B r).size + po.length := by
        rw [hlsE, List.length_append, List.length_append, Blk.size_lines]
      have hdr : ls.drop (l + 1) = (A.lines ++ ((if e = true then ("else" : Str) :: B.lines else []) ++ ("end" : Str) :: r.lines)) ++ po := by
        rw [hlsE, ← hpl, List.append_assoc, ← List.drop_drop, List.drop_left]
        rfl
      have hbg := Blk.bGo_if hHd po l
      rw [← hdr] at hbg
      refine ⟨_, rfl, _, rfl, a, ls, l + 1, rfl, hG.seq ha, by omega, by omega, fun s hs => (hok s hs).1, fun t0 G1 s1 ht => ?_⟩
      rw [hbg] at ht
      refine ⟨t0, _, rfl, ht, rfl, _, _, rfl, _, _, rfl, rfl, ?_⟩
      have hp1 : Blk.p1 l A = l + 1 + A.size := rfl
      have hG1 := hG.trans s1
      have fitA : ls = (pr ++ [t]) ++ A.lines ++ (((if e = true then ("else" : Str) :: B.lines else []) ++ ("end" : Str) :: r.lines) ++ po) := by
        rw [hlsE]
        show pr ++ (t :: (A.lines ++ ((if e = true then ("else" : Str) :: B.lines else []) ++ ("end" : Str) :: r.lines))) ++ po = _
        simp [List.append_assoc]
      have lenA : (pr ++ [t]).length = l + 1 := by rw [List.length_append, hpl]; rfl
      have hwL : ∀ (X : Blk) (i : Nat), X.size ≤ 100 → ∀ x ∈ lw X i, (encL x).length ≤ 900 := fun X i hX x hx => by
        have := lw_wlen X i x hx
        have := encL_len x
        omega
      have cntA := (Blk.lw_len A (l + 1)).1
      have p16 : ∀ u, u ≤ 6 → 2 ^ u ≤ 64 := fun u hu => Nat.pow_le_pow_right (by decide) hu
      refine ⟨_, rfl, _, _, rfl, rfl, _, rfl, ?_⟩
      cases e with
      | true =>
        rw [if_pos rfl] at hsE hiE
        have fitB : ls = (pr ++ [t] ++ A.lines ++ [("else" : Str)]) ++ B.lines ++ ((("end" : Str) :: r.lines) ++ po) := by
          rw [hlsE]
          show pr ++ (t :: (A.lines ++ ((("else" : Str) :: B.lines) ++ ("end" : Str) :: r.lines))) ++ po = _
          simp [List.append_assoc]
        have lenB : (pr ++ [t] ++ A.lines ++ [("else" : Str)]).length = Blk.p1 l A + 1 := by
          rw [List.length_append, List.length_append, lenA, Blk.size_lines]
          rfl
        have eqB : ∀ z : V, [V.ref a, V.int (((Blk.p1 l A + 1 : Nat) : Int) + (if decide ((0 : Int) < ((Blk.p1 l A + 1 : Nat) : Int)) = true then 1 else 0)), z] ++ [] = [V.ref a, V.int ((Blk.p1 l A + 1 + 1 : Nat) : Int), z] := fun z => by
          rw [if_pos (decide_eq_true (by omega))]
          rfl
        refine ifT3 (decide_eq_true (by show (0 : Int) < ((Blk.p1 l A + 1 : Nat) : Int); omega)) ?_
        refine ⟨_, rfl, ?_⟩
        refine ⟨_, rfl, _, rfl, _, _, rfl, rfl, _, rfl, a, ls, pr ++ [t], _, A, ?_, fitA, hG1.seq ha, hH2, hF2, by omega, hll, by omega, hok, fun R as xs G2 s2 gR hE hm hlen hop => ?_⟩
        · rw [lenA, show l + 1 + 1 + A.size = Blk.p1 l A + 1 by omega]
          rfl
        rw [lenA] at hm hlen hop
        have hasl : as.length = xs.length := Paired.length hE
        have a16 := p16 A.ifs (by omega)
        refine ⟨R, rfl, ⟨_, SqL.of gR⟩, fun D1 nD1 => lc_pre (l := l) rfl (by show 10 < 12; decide) gR hE (by omega) (fun x hx => hwL A (l + 1) (by omega) x ((hm x).mp hx)) nD1 fun G3 zs s3 gD hz => ?_⟩
        have hzl : zs.length = (xs.map (Blk.pre (l + 1))).length := Paired.length hz
        rw [List.length_map] at hzl
        have hG3 := (hG1.trans s2).trans s3
        refine ⟨_, rfl, _, rfl, _, rfl, _, rfl, _, _, rfl, rfl, .inr ⟨_, rfl, _, _, rfl, rfl, _, rfl, a, ls, pr ++ [t] ++ A.lines ++ [("else" : Str)], _, B, ?_, fitB, hG3.seq ha, hH3 rfl, hF3 rfl, by omega, hll, by omega, hok, fun R2 as2 xs2 G4 s4 gR2 hE2 hm2 hlen2 hop2 => ?_⟩⟩
        · rw [lenB]
          rw [show Blk.p1 l A + 1 + 1 + B.size = Blk.p2 l A true B + 1 by show _ = Blk.p1 l A + 1 + B.size + 1; omega]
          exact eqB _
        rw [lenB] at hm2 hlen2 hop2
        have hasl2 : as2.length = xs2.length := Paired.length hE2
        have b16 := p16 B.ifs (by omega)
        have cntB := (Blk.lw_len B (Blk.p1 l A + 1)).1
        refine ⟨R2, rfl, ⟨_, SqL.of gR2⟩, fun D2 nD2 => lc_pre (l := l) rfl (by show 10 < 12; decide) gR2 hE2 (by omega) (fun x hx => hwL B (Blk.p1 l A + 1) (by omega) x ((hm2 x).mp hx)) nD2 fun G5 zs2 s5 gD2 hz2 => ?_⟩
        have hzl2 : zs2.length = (xs2.map (Blk.pre (l + 1))).length := Paired.length hz2
        rw [List.length_map] at hzl2
        have s45 := s4.trans s5
        refine ⟨D1, D2, _, _, rfl, rfl, s45 _ _ gD, gD2, Nat.le_of_lt (small1000 (by rw [List.length_map, List.length_map]; omega)), fun p np => ?_⟩
        have sp := Same.new (o := .lst (zs.map V.ref ++ zs2.map V.ref)) np
        refine hnx _ p _ _ _ (((s1.trans s2).trans s3).trans (s45.trans sp)) ⟨zs ++ zs2, xs.map (Blk.pre (l + 1)) ++ xs2.map (Blk.pre (l + 1)), by rw [List.map_append]; exact upd_same, EncAt.app (hz.keep (s45.trans sp)) (hz2.keep sp), fun x => ?_, ?_, ?_⟩
        · show _ ↔ x ∈ (lw A (l + 1)).map (Blk.pre (l + 1)) ++ (lw B (Blk.p1 l A + 1)).map (Blk.pre (l + 1))
          rw [List.mem_append, List.mem_append, List.mem_map, List.mem_map, List.mem_map, List.mem_map]
          constructor
          · rintro (⟨y, hy, e⟩ | ⟨y, hy, e⟩)
            · exact .inl ⟨y, (hm y).mp hy, e⟩
            · exact .inr ⟨y, (hm2 y).mp hy, e⟩
          · rintro (⟨y, hy, e⟩ | ⟨y, hy, e⟩)
            · exact .inl ⟨y, (hm y).mpr hy, e⟩
            · exact .inr ⟨y, (hm2 y).mpr hy, e⟩
        · show _ = ((lw A (l + 1)).map (Blk.pre (l + 1)) ++ (lw B (Blk.p1 l A + 1)).map (Blk.pre (l + 1))).length
          rw [List.length_append, List.length_append, List.length_map, List.length_map, List.length_map, List.length_map, hlen, hlen2]
          all_goals rfl
        · show Blk.open_ _ = Blk.open_ ((lw A (l + 1)).map (Blk.pre (l + 1)) ++ _)
          unfold Blk.lTail at *
          rw [open_app, open_app, open_pre, open_pre, open_pre, open_pre, hop, hop2]
          all_goals rfl
      | false =>
        rw [if_neg Bool.false_ne_true] at hsE hiE
        have fitN : ls = (pr ++ [t] ++ A.lines) ++ Blk.nil.lines ++ ((("end" : Str) :: r.lines) ++ po) := by
          rw [hlsE]
          show pr ++ (t :: (A.lines ++ ([] ++ ("end" : Str) :: r.lines))) ++ po = (pr ++ [t] ++ A.lines) ++ [] ++ _
          simp [List.append_assoc]
        have lenN : (pr ++ [t] ++ A.lines).length = Blk.p1 l A := by
          rw [List.length_append, lenA, Blk.size_lines]
          rfl
        have z0 : Blk.nil.size = 0 := rfl
        have z2 : Blk.nil.ifs = 0 := rfl
        refine ifF3 (decide_eq_false (by show ¬ (0 : Int) < ((0 : Nat) : Int); omega)) ?_
        refine ⟨_, rfl, ?_⟩
        refine ⟨_, rfl, _, rfl, _, _, rfl, rfl, _, rfl, a, ls, pr ++ [t], _, A, ?_, fitA, hG1.seq ha, hH2, hF2, by omega, hll, by omega, hok, fun R as xs G2 s2 gR hE hm hlen hop => ?_⟩
        · rw [lenA, show l + 1 + 1 + A.size = Blk.p1 l A + 1 by omega]
          rfl
        rw [lenA] at hm hlen hop
        have hasl : as.length = xs.length := Paired.length hE
        have a16 := p16 A.ifs (by omega)
        refine ⟨R, rfl, ⟨_, SqL.of gR⟩, fun D1 nD1 => lc_pre (l := l) rfl (by show 10 < 12; decide) gR hE (by omega) (fun x hx => hwL A (l + 1) (by omega) x ((hm x).mp hx)) nD1 fun G3 zs s3 gD hz => ?_⟩
        have hzl : zs.length = (xs.map (Blk.pre (l + 1))).length := Paired.length hz
        rw [List.length_map] at hzl
        have hG3 := (hG1.trans s2).trans s3
        refine ⟨_, rfl, _, rfl, _, rfl, _, rfl, _, _, rfl, rfl, .inr ⟨_, rfl, _, _, rfl, rfl, _, rfl, a, ls, pr ++ [t] ++ A.lines, _, Blk.nil, ?_, fitN, hG3.seq ha, trivial, trivial, by omega, hll, by omega, hok, fun R2 as2 xs2 G4 s4 gR2 hE2 hm2 hlen2 hop2 => ?_⟩⟩
        · rw [lenN]
          rfl
        rw [lenN] at hm2 hlen2 hop2
        have hasl2 : as2.length = xs2.length := Paired.length hE2
        have z1 : (lw Blk.nil (Blk.p1 l A)).length = 1 := rfl
        refine ⟨R2, rfl, ⟨_, SqL.of gR2⟩, fun D2 nD2 => lc_pre (l := l) rfl (by show 10 < 12; decide) gR2 hE2 (by omega) (fun x hx => hwL Blk.nil (Blk.p1 l A) (by omega) x ((hm2 x).mp hx)) nD2 fun G5 zs2 s5 gD2 hz2 => ?_⟩
        have hzl2 : zs2.length = (xs2.map (Blk.pre (l + 1))).length := Paired.length hz2
        rw [List.length_map] at hzl2
        have s45 := s4.trans s5
        refine ⟨D1, D2, _, _, rfl, rfl, s45 _ _ gD, gD2, Nat.le_of_lt (small1000 (by rw [List.length_map, List.length_map]; omega)), fun p np => ?_⟩
        have sp := Same.new (o := .lst (zs.map V.ref ++ zs2.map V.ref)) np
        refine hnx _ p _ _ _ (((s1.trans s2).trans s3).trans (s45.trans sp)) ⟨zs ++ zs2, xs.map (Blk.pre (l + 1)) ++ xs2.map (Blk.pre (l + 1)), by rw [List.map_append]; exact upd_same, EncAt.app (hz.keep (s45.trans sp)) (hz2.keep sp), fun x => ?_, ?_, ?_⟩
        · show _ ↔ x ∈ (lw A (l + 1)).map (Blk.pre (l + 1)) ++ (([([], false)] : List LWay)).map (Blk.pre (l + 1))
          rw [List.mem_append, List.mem_append, List.mem_map, List.mem_map, List.mem_map, List.mem_map]
          constructor
          · rintro (⟨y, hy, e⟩ | ⟨y, hy, e⟩)
            · exact .inl ⟨y, (hm y).mp hy, e⟩
            · exact .inr ⟨y, (hm2 y).mp hy, e⟩
          · rintro (⟨y, hy, e⟩ | ⟨y, hy, e⟩)
            · exact .inl ⟨y, (hm y).mpr hy, e⟩
            · exact .inr ⟨y, (hm2 y).mpr hy, e⟩
        · show _ = ((lw A (l + 1)).map (Blk.pre (l + 1)) ++ (([([], false)] : List LWay)).map (Blk.pre (l + 1))).length
          rw [List.length_append, List.length_append, List.length_map, List.length_map, List.length_map, List.length_map, hlen, hlen2]
          all_goals rfl
        · show Blk.open_ _ = Blk.open_ ((lw A (l + 1)).map (Blk.pre (l + 1)) ++ _)
          unfold Blk.lTail at *
          rw [open_app, open_app, open_pre, open_pre, open_pre, open_pre, hop, hop2]
          all_goals rfl
    -- what is longer: the lines behind the suite
    obtain ⟨tL, pL, rL⟩ : ∃ tL, PSs (cxOf CX0 P w K mg base nmLW "_law_ways" (defScope sLWays) f cdv A outer s H E).nox ((wBody wLoop).drop 2) tL ∧
        ∀ (D : Ends) (G : Hp) (Fd T : Addr) (as : List Addr) (xs S : List LWay) (en : Nat) (v4 v7 v8 v9 v10 v11 : Option V), Same H G → G Fd = some (.lst (as.map V.ref)) → EncAt G as xs → as.length ≤ 64 → TailsAt G T S → S.length ≤ 64 → (∀ x ∈ xs, (∀ n ∈ x.1, 1 ≤ n) ∧ x.1.length ≤ 100) → (∀ x ∈ S, (∀ n ∈ x.1, 1 ≤ n) ∧ x.1.length ≤ 100) → (comb xs S).length ≤ 64 →
          (∀ (G2 : Hp) (Fd2 : Addr) (as2 : List Addr) (xs2 : List LWay) (v9 v10 : Option V), Same G G2 → G2 Fd2 = some (.lst (as2.map V.ref)) → EncAt G2 as2 xs2 → (∀ x, x ∈ xs2 ↔ x ∈ comb xs S) → xs2.length = (comb xs S).length → Blk.open_ xs2 = Blk.open_ (comb xs S) → D.nx [some (.ref a), some (.int ((pre.length + 1 : Nat) : Int)), some (.int ((pre.length + 1 + b.size : Nat) : Int)), some (.ref Fd2), some (.int ((en + 1 : Nat) : Int)), some (.ref T), some (.int (en : Nat)), v7, v8, v9, v10, v11] G2) →
          tL D [some (.ref a), some (.int ((pre.length + 1 : Nat) : Int)), some (.int ((pre.length + 1 + b.size : Nat) : Int)), some (.ref Fd), v4, some (.ref T), some (.int (en : Nat)), v7, v8, v9, v10, v11] G := by
      refine ⟨_, pss_cons (ps_setLc (i := 9) (own := [("_law_way", 10)]) (g := gName 10) (te := tVar 10) rfl scLW.nd rfl rfl (sw_true rfl rfl rfl (by decide +kernel)) (by exact pi_list (pv 3)) (blkOk_by (own := [("_law_way", 10)]) (N := nmLW) (sc := defScope sLWays) (by decide +kernel)) (fun _ _ _ _ _ => pg_name (i := 10) scLW.nd rfl (Or.inl rfl)) (fun _ _ _ _ _ => pts_one (pt_cmpR (show OpR _ _ (rEqD K) from op_eqD hr.units) (pe_slice (show SlR _ (rSlL K) from sl_list) (pv 10) (po_some (pe_un un_neg pe_int)) po_none) (pe_lst (pa_cons pe_int pa_nil)) (nomark _))) (fun _ _ _ _ _ => pv 10))
        (pss_cons (ps_for PassesOwn.never rfl (by exact pi_list (pe_lc (own := [("_law_way", 10)]) (g := gName 10) (te := tVar 10) rfl scLW.nd (by exact pi_list (pv 3)) (blkOk_by (own := [("_law_way", 10)]) (N := nmLW) (sc := defScope sLWays) (by decide +kernel)) (fun _ _ _ _ _ => pg_name (i := 10) scLW.nd rfl (Or.inl rfl)) (fun _ _ _ _ _ => pts_one (pt_cmpR (show OpR _ _ (rNeD K) from op_neD hr.units) (pe_slice (show SlR _ (rSlL K) from sl_list) (pv 10) (po_some (pe_un un_neg pe_int)) po_none) (pe_lst (pa_cons pe_int pa_nil)) (nomark _))) (fun _ _ _ _ _ => pv 10))) (pg_name (i := 10) scLW.nd rfl (Or.inr rfl))
          (pss_one (ps_set (i := 9) scLW.nd rfl (.inl rfl) (pe_op op_cat (pv 9) (pe_lc (own := [("_law_tail", 11)]) (g := gName 11) (te := tOp rCat (tVar 10) (tVar 11)) rfl scLW.nd (by exact pi_list (pv 5)) (blkOk_by (own := [("_law_tail", 11)]) (N := nmLW) (sc := defScope sLWays) (by decide +kernel)) (fun _ _ _ _ _ => pg_name (i := 11) scLW.nd rfl (Or.inl rfl)) (fun _ _ _ _ _ => pts_nil) (fun _ _ _ _ _ => by exact (pe_op op_cat (pv 10) (pv 11))))))))
        (pss_one (ps_asg (pe_tup (pa_cons (pv 9) (pa_cons (pe_op op_add (pv 6) pe_int) pa_nil))) (pg_tup rfl (pgs_cons (pg_name (i := 3) scLW.nd rfl (.inl rfl)) (pgs_cons (pg_name (i := 4) scLW.nd rfl (.inr rfl)) pgs_nil)))))), ?_⟩
      intro D G Fd T as xs S en v4 v7 v8 v9 v10 v11 hG gF hE hal hT hSl hxs hS hcl hnx
      refine ⟨_, rfl, Fd, rfl, ⟨_, SqL.of gF⟩, fun D1 nD1 => lc_fil (sel := id) (fun _ _ _ _ h => h) (by show 10 < 12; decide) gF hE (by omega) (fun x hx => (hxs x hx).1) nD1 fun G3 zs s3 gD hz => ?_⟩
      refine ⟨_, rfl, Fd, rfl, ⟨_, SqL.of (s3 _ _ gF)⟩, fun D2 nD2 => lc_fil (sel := not) (fun _ _ _ _ h => h) (by show 10 < 12; decide) (s3 _ _ gF) (hE.keep s3) (by omega) (fun x hx => (hxs x hx).1) nD2 fun G4 us s4 gD2 hu2 => ?_⟩
      obtain ⟨ts, txs, gT, hTE, hTm, hTl, hTo⟩ := hT
      have s34 := s3.trans s4
      have htl : ts.length = txs.length := Paired.length hTE
      have hcx : (comb xs txs).length = (comb xs S).length := by rw [Blk.len_comb, Blk.len_comb, hTl]
      have hff : (xs.filter fun x => id x.2) = xs.filter (·.2) := rfl
      have hfn : (xs.filter fun x => not x.2) = xs.filter (!·.2) := rfl
      rw [hff] at hz
      rw [hfn] at hu2
      have hxl : xs.length ≤ 64 := by
        have : as.length = xs.length := Paired.length hE
        omega
      have small : ∀ k, ((xs.filter (·.2)) ++ ((xs.filter (!·.2)).take k).flatMap fun u => txs.map fun v => ((u.1 ++ v.1, v.2) : LWay)).length ≤ 64 := fun k => by
        have h1 : (comb xs txs).length ≤ 64 := by omega
        have h2 : (((xs.filter (!·.2)).take k).flatMap fun u => txs.map fun v => ((u.1 ++ v.1, v.2) : LWay)).length ≤ ((xs.filter (!·.2)).flatMap fun u => txs.map fun v => ((u.1 ++ v.1, v.2) : LWay)).length := by
          have e : ((xs.filter (!·.2)).flatMap fun u => txs.map fun v => ((u.1 ++ v.1, v.2) : LWay)) = (((xs.filter (!·.2)).take k).flatMap fun u => txs.map fun v => ((u.1 ++ v.1, v.2) : LWay)) ++ (((xs.filter (!·.2)).drop k).flatMap fun u => txs.map fun v => ((u.1 ++ v.1, v.2) : LWay)) := by
            rw [← List.flatMap_append, List.take_append_drop]
          rw [e, List.length_append]
          omega
        have h3 : (comb xs txs).length = (xs.filter (·.2)).length + ((xs.filter (!·.2)).flatMap fun u => txs.map fun v => ((u.1 ++ v.1, v.2) : LWay)).length := List.length_append
        rw [List.length_append]
        omega
      refine ⟨D2, rfl, ⟨_, SqL.of gD2⟩, for_list (K := K) (a := D2) (xs := us.map V.ref) (fun i σ G5 => ∃ Lg zs ys v10, σ = [some (.ref a), some (.int ((pre.length + 1 : Nat) : Int)), some (.int ((pre.length + 1 + b.size : Nat) : Int)), some (.ref Fd), v4, some (.ref T), some (.int (en : Nat)), v7, v8, some (.ref Lg), v10, v11] ∧ Same G4 G5 ∧
        G5 Lg = some (.lst (zs.map V.ref)) ∧ EncAt G5 zs ys ∧ ys = (xs.filter (·.2)) ++ ((xs.filter (!·.2)).take i).flatMap fun u => txs.map fun v => ((u.1 ++ v.1, v.2) : LWay))
        ⟨D1, zs, _, _, rfl, Same.refl G4, s4 _ _ gD, hz.keep s4, by rw [List.take_zero, List.flatMap_nil, List.append_nil]⟩ (fun i σ G5 _ ⟨_, _, _, _, _, e, _⟩ => SqL.of (e _ _ gD2)) ?_ ?_⟩
      · rintro i y σ G5 hi ⟨Lg, zs2, ys, v10, rfl, s5, gL, hzs, hys⟩
        obtain ⟨uw, huw, rfl⟩ : ∃ uw, us[i]? = some uw ∧ y = V.ref uw := by
          rw [List.getElem?_map] at hi
          cases e : us[i]? with
          | none => rw [e] at hi; cases hi
          | some z => rw [e] at hi; exact ⟨z, rfl, (Option.some.inj hi).symm⟩
        obtain ⟨wu, hwu, guw⟩ := Paired.get hu2 huw
        obtain ⟨q1, q2⟩ := List.mem_filter.mp (List.mem_of_getElem? hwu)
        obtain ⟨w0, e0⟩ := wu
        have e0f : e0 = false := by simpa using q2
        subst e0f
        have bw := (hxs _ q1).2
        have hwl : (encL (w0, false)).length ≤ 400 := by
          have := encL_len (w0, false)
          have : (w0, false).1.length ≤ 100 := bw
          omega
        have htw : ∀ x ∈ txs, (encL x).length ≤ 400 := fun x hx => by
          have := encL_len x
          have := (hS x ((hTm x).mp hx)).2
          omega
        refine ⟨_, rfl, _, rfl, T, rfl, ⟨_, SqL.of (s5 _ _ (s34 _ _ gT))⟩, fun D3 nD3 => lc_cat rfl (by show 11 < 12; decide) (s5 _ _ guw) (s5 _ _ (s34 _ _ gT)) (hTE.keep (s34.trans s5)) (by omega) hwl htw nD3 fun G6 ws s6 gD3 hws => ?_⟩
        have hwsl : ws.length = (txs.map fun v => ((w0 ++ v.1, v.2) : LWay)).length := Paired.length hws
        rw [List.length_map] at hwsl
        have hzl2 : zs2.length = ys.length := Paired.length hzs
        have hyl := small i
        rw [← hys] at hyl
        refine ⟨Lg, D3, _, _, rfl, rfl, s6 _ _ gL, gD3, Nat.le_of_lt (small1000 (by rw [List.length_map, List.length_map]; omega)), fun p np => ?_⟩
        have sp := Same.new (o := .lst (zs2.map V.ref ++ ws.map V.ref)) np
        refine ⟨p, zs2 ++ ws, ys ++ txs.map (fun v => ((w0 ++ v.1, v.2) : LWay)), _, rfl, (s5.trans s6).trans sp, by rw [List.map_append]; exact upd_same, EncAt.app (hzs.keep (s6.trans sp)) (hws.keep sp), ?_⟩
        rw [take_more hwu, List.flatMap_append, hys, List.append_assoc]
        congr 2
        rw [List.flatMap_cons, List.flatMap_nil, List.append_nil]
      · rintro σ G5 ⟨Lg, zs2, ys, v10, rfl, s5, gL, hzs, hys⟩
        have hul : us.length = (xs.filter (!·.2)).length := Paired.length hu2
        rw [List.length_map, hul, List.take_length] at hys
        have hys' : ys = comb xs txs := hys
        refine ⟨_, rfl, _, rfl, _, _, rfl, rfl, (by show 2 ≤ sizeLine; decide), fun t2 nt2 => ?_⟩
        have st2 := Same.new (o := .tup [.ref Lg, .int ((en : Int) + 1)]) nt2
        refine ⟨t2, _, rfl, SqT.of upd_same, rfl, _, _, rfl, _, _, rfl, rfl, ?_⟩
        refine hnx _ Lg zs2 ys _ _ ((s34.trans s5).trans st2) (st2 _ _ gL) (hzs.keep st2) (fun x => ?_) (by rw [hys', hcx]) (by rw [hys', Blk.open_comb, Blk.open_comb, hTo])
        rw [hys', Blk.mem_comb, Blk.mem_comb]
        constructor
        · rintro (h | ⟨u, hu, hu2, v, hv, e⟩)
          · exact .inl h
          · exact .inr ⟨u, hu, hu2, v, (hTm v).mp hv, e⟩
        · rintro (h | ⟨u, hu, hu2, v, hv, e⟩)
          · exact .inl h
          · exact .inr ⟨u, hu, hu2, v, (hTm v).mpr hv, e⟩
    refine ⟨_, pss_cons (ps_asg (pe_tup (pa_cons (pe_lst (pa_cons (pe_lst pa_nil) pa_nil)) (pa_cons (pv 1) pa_nil))) (pg_tup rfl (pgs_cons (pg_name (i := 3) scLW.nd rfl (.inl rfl)) (pgs_cons (pg_name (i := 4) scLW.nd rfl (.inr rfl)) pgs_nil))))
      (pss_cons (ps_while PassesOwn.never (pt_cmpR op_lt (pv 4) (pv 2) (nomark _))
        (pss_cons (ps_par (i := 5) (j := 6) rfl scLW.nd rfl rfl (by decide) rfl rfl (pa_cons (pe_ifExp (pt_cmpR op_in_seq (pe_ix ix_list (pv 0) (pe_op op_sub (pv 4) pe_int) (fun _ _ => rfl)) (pe_lst (pa_cons pe_str (pa_cons pe_str pa_nil))) (by rfl)) (pe_lst (pa_cons (pe_lst (pa_cons (pv 4) (pa_cons pe_int pa_nil))) pa_nil)) (pe_lst (pa_cons (pe_lst (pa_cons (pv 4) pa_nil)) pa_nil))) (pa_cons (pv 4) pa_nil)) (by rfl))
        (pss_cons (ps_if (pt_cmpR op_eq (pe_slice sl_str (pe_ix ix_list (pv 0) (pe_op op_sub (pv 4) pe_int) (fun _ _ => rfl)) po_none (po_some pe_int)) pe_str (nomark _)) pI pss_nil) pL)))
      (pss_one (ps_ret (pv 3)))), ?_⟩
    have hbl : b.size ≤ 100 := by
      have : ls.length = pre.length + b.size + post.length := by rw [hls, List.length_append, List.length_append, Blk.size_lines]
      omega
    have hb16 : (lw b pre.length).length ≤ 64 := Nat.le_trans (Blk.lw_len b _).1 (Nat.pow_le_pow_right (by decide) hif : 2 ^ b.ifs ≤ 2 ^ 6)
    refine ⟨(by show 0 ≤ sizeLine; decide), fun e0 ne0 => ⟨(by show 1 ≤ sizeLine; decide), fun F0 nF0 => ⟨_, rfl, (by show 2 ≤ sizeLine; decide), fun t0 nt0 => ?_⟩⟩⟩
    have s1 := Same.new (o := .lst []) ne0
    have s2 := Same.new (o := .lst [.ref e0]) nF0
    have s3 := Same.new (o := .tup [.ref F0, .int ((pre.length + 1 : Nat) : Int)]) nt0
    refine ⟨t0, _, rfl, SqT.of upd_same, rfl, _, _, rfl, _, _, rfl, rfl, ?_⟩
    refine ⟨fun m σ G => ∃ (Fd : Addr) (as : List Addr) (xs : List LWay) (r : Blk) (pr po : List Str) (v5 v6 v7 v8 v9 v10 v11 : Option V), σ = [some (.ref a), some (.int ((pre.length + 1 : Nat) : Int)), some (.int ((pre.length + 1 + b.size : Nat) : Int)), some (.ref Fd), some (.int ((pr.length + 1 : Nat) : Int)), v5, v6, v7, v8, v9, v10, v11] ∧ Same H G ∧
      G Fd = some (.lst (as.map V.ref)) ∧ EncAt G as xs ∧ ls = pr ++ r.lines ++ po ∧ pr.length + r.size = pre.length + b.size ∧ r.Heads ∧ Fronts r ∧ r.ifs ≤ 6 ∧ r.size ≤ b.size ∧ Sim (comb xs (lw r pr.length)) (lw b pre.length) ∧ m = r.size,
      ⟨_, F0, [e0], [([], false)], b, pre, post, none, none, none, none, none, none, none, rfl, (s1.trans s2).trans s3, s3 _ _ upd_same, .cons (s3 _ _ (s2 _ _ upd_same)) .nil, hls, rfl, hH, hF, hif, Nat.le_refl _, ?_, rfl⟩, ?_⟩
    · have e : comb [([], false)] (lw b pre.length) = lw b pre.length := by
        show [] ++ ((lw b pre.length).map fun v => (([] : List Nat) ++ v.1, v.2)) ++ [] = _
        rw [List.nil_append, List.append_nil]
        exact List.map_id _
      rw [e]
      exact Sim.rfl _
    rintro m σ G ⟨Fd, as, xs, r, pr, po, v5, v6, v7, v8, v9, v10, v11, rfl, hG, gF, hE, hlr, hsz, hrH, hrF, hri, hrs, hS, rfl⟩
    have hax : as.length = xs.length := Paired.length hE
    have r1 := (Blk.lw_len r pr.length).2
    have hx16 : xs.length ≤ 64 := by
      have h1 := comb_le (F := xs) r1
      have h2 := hS.len
      omega
    have hxb : ∀ x ∈ xs, (∀ n ∈ x.1, 1 ≤ n) ∧ x.1.length ≤ 100 := fun x hx => by
      obtain ⟨y, hy, h1, h2⟩ := comb_bound (S := lw r pr.length) r1 hx
      have hyb := (hS.mem y).mp hy
      have := lw_wlen b _ y hyb
      exact ⟨fun n hn => lw_pos b _ y hyb n (h1 n hn), by omega⟩
    have hllen : ls.length = pr.length + r.size + po.length := by rw [hlr, List.length_append, List.length_append, Blk.size_lines]
    refine ⟨_, rfl, _, rfl, _, _, rfl, rfl, _, rfl, ?_⟩
    cases r with
    | nil =>
      have z0 : Blk.nil.size = 0 := rfl
      refine ifF3 (decide_eq_false (by omega)) ?_
      have hS' := (comb_one xs)
      refine ⟨_, rfl, k Fd as xs G hG gF hE (fun x => ?_) ?_ ?_⟩
      · exact ((hS'.mem x).symm).trans (hS.mem x)
      · exact hS'.len.symm.trans hS.len
      · exact hS'.op.symm.trans hS.op
    | leaf s r =>
      have z0 : (Blk.leaf s r).size = r.size + 1 := rfl
      have z2 : (Blk.leaf s r).ifs = r.ifs := rfl
      obtain ⟨hh1, hh2⟩ := id hrH
      obtain ⟨hf1, hf2⟩ := id hrF
      have hdr : (ls.map V.str)[pr.length]? = some (.str s) := by
        rw [List.getElem?_map, hlr]
        show (((pr ++ (s :: _)) ++ po)[pr.length]?).map V.str = _
        rw [List.append_assoc, List.getElem?_append_right (Nat.le_refl _), Nat.sub_self]
        rfl
      have hat : atI (ls.map V.str) (((pr.length + 1 : Nat) : Int) - 1) = some (.str s) := by
        rw [show ((pr.length + 1 : Nat) : Int) - 1 = ((pr.length : Nat) : Int) by omega]
        exact atI_nat hdr
      have hsl : s ∈ ls := by
        rw [hlr]
        exact List.mem_append_left _ (List.mem_append_right _ (List.mem_cons_self ..))
      have hslen := (hok s hsl).2
      refine ifT3 (decide_eq_true (by omega)) ?_
      refine ⟨_, fun _ _ h => h, ?_⟩
      refine ⟨_, rfl, _, rfl, _, _, rfl, rfl, a, _, _, _, rfl, rfl, hG.seq ha, hat, (by show 2 ≤ sizeLine; decide), fun q nq => ?_⟩
      have sq := Same.new (o := .lst (quits.map V.str)) nq
      refine ⟨q, _, rfl, .inl (SqL.of upd_same), rfl, flat_str quits, ?_⟩
      rw [if_neg Bool.false_ne_true]
      refine ⟨_, rfl, ?_⟩
      have inQ : inV (V.str s) [V.str "quit", V.str "no"] = decide (s ∈ quits) := inV_str _ quits
      rw [inQ]
      have hpl1 : (pr ++ [s]).length = pr.length + 1 := by rw [List.length_append]; rfl
      have rr1 := (Blk.lw_len r (pr.length + 1)).2
      have hSim : Sim (comb (comb xs [([pr.length + 1], Blk.isQ s)]) (lw r (pr.length + 1))) (lw b pre.length) := (Sim.assoc _ _ _).trans hS
      by_cases hq : s ∈ quits
      · have hQ : Blk.isQ s = true := by
          unfold Blk.isQ
          rcases List.mem_cons.mp hq with e | e
          · rw [e]; rfl
          · rw [List.mem_singleton.mp e]; rfl
        refine ifT3 (decide_eq_true hq) ?_
        refine ⟨_, rfl, (by show 2 ≤ sizeLine; decide), fun l1 nl1 => ⟨(by show 1 ≤ sizeLine; decide), fun T0 nT => ?_⟩⟩
        have sl1 := Same.new (o := .lst [.int ((pr.length + 1 : Nat) : Int), .int 0]) nl1
        have sT := Same.new (o := .lst [.ref l1]) nT
        have sA := sq.trans (sl1.trans sT)
        refine ⟨_, rfl, _, _, rfl, ?_⟩
        refine ⟨_, rfl, _, rfl, _, _, rfl, rfl, a, _, _, _, rfl, rfl, (hG.trans sA).seq ha, hat, _, rfl, s, rfl, Nat.le_of_lt (small1000 (by omega)), rfl, _, rfl, ?_⟩
        refine ifF3 (decide_eq_false fun z => hf1 (V.str.inj z)) ?_
        rw [hQ] at hSim
        refine rL _ _ Fd T0 as xs [([pr.length + 1], true)] (pr.length + 1) _ _ _ _ _ _ (hG.trans sA) (sA _ _ gF) (hE.keep sA) (by omega) ⟨[l1], [([pr.length + 1], true)], upd_same, .cons (sT _ _ upd_same) .nil, fun _ => Iff.rfl, rfl, rfl⟩ (by show 1 ≤ 64; decide) hxb (fun x hx => ?_) ?_ fun G2 Fd2 as2 xs2 v9 v10 s2 gF2 hE2 hm2 hl2 ho2 => ?_
        · rw [List.mem_singleton.mp hx]
          exact ⟨fun n hn => by rw [List.mem_singleton.mp hn]; omega, by show 1 ≤ 100; decide⟩
        · have h1 := comb_le (F := comb xs [([pr.length + 1], true)]) rr1
          have h2 := hSim.len
          omega
        · refine ⟨r.size, by omega, Fd2, as2, xs2, r, pr ++ [s], po, some (.ref T0), some (.int ((pr.length + 1 : Nat) : Int)), v7, v8, v9, v10, v11, ?_, (hG.trans sA).trans s2, gF2, hE2, ?_, ?_, hh2, hf2, by omega, by omega, ?_, rfl⟩
          · rw [hpl1]
          · rw [hlr]
            show pr ++ (s :: r.lines) ++ po = _
            simp [List.append_assoc]
          · rw [hpl1]
            omega
          · rw [hpl1]
            exact (Sim.cmb ⟨hm2, hl2, ho2⟩).trans hSim
      · have hQ : Blk.isQ s = false := by
          unfold Blk.isQ
          have q1 : ¬ s = "quit" := fun e => hq (by rw [e]; exact List.mem_cons_self ..)
          have q2 : ¬ s = "no" := fun e => hq (by rw [e]; exact List.mem_cons_of_mem _ (List.mem_singleton.mpr rfl))
          rw [decide_eq_false q1, decide_eq_false q2]
          rfl
        refine ifF3 (decide_eq_false hq) ?_
        refine ⟨_, rfl, (by show 1 ≤ sizeLine; decide), fun l1 nl1 => ⟨(by show 1 ≤ sizeLine; decide), fun T0 nT => ?_⟩⟩
        have sl1 := Same.new (o := .lst [.int ((pr.length + 1 : Nat) : Int)]) nl1
        have sT := Same.new (o := .lst [.ref l1]) nT
        have sA := sq.trans (sl1.trans sT)
        refine ⟨_, rfl, _, _, rfl, ?_⟩
        refine ⟨_, rfl, _, rfl, _, _, rfl, rfl, a, _, _, _, rfl, rfl, (hG.trans sA).seq ha, hat, _, rfl, s, rfl, Nat.le_of_lt (small1000 (by omega)), rfl, _, rfl, ?_⟩
        refine ifF3 (decide_eq_false fun z => hf1 (V.str.inj z)) ?_
        rw [hQ] at hSim
        refine rL _ _ Fd T0 as xs [([pr.length + 1], false)] (pr.length + 1) _ _ _ _ _ _ (hG.trans sA) (sA _ _ gF) (hE.keep sA) (by omega) ⟨[l1], [([pr.length + 1], false)], upd_same, .cons (sT _ _ upd_same) .nil, fun _ => Iff.rfl, rfl, rfl⟩ (by show 1 ≤ 64; decide) hxb (fun x hx => ?_) ?_ fun G2 Fd2 as2 xs2 v9 v10 s2 gF2 hE2 hm2 hl2 ho2 => ?_
        · rw [List.mem_singleton.mp hx]
          exact ⟨fun n hn => by rw [List.mem_singleton.mp hn]; omega, by show 1 ≤ 100; decide⟩
        · have h1 := comb_le (F := comb xs [([pr.length + 1], false)]) rr1
          have h2 := hSim.len
          omega
        · refine ⟨r.size, by omega, Fd2, as2, xs2, r, pr ++ [s], po, some (.ref T0), some (.int ((pr.length + 1 : Nat) : Int)), v7, v8, v9, v10, v11, ?_, (hG.trans sA).trans s2, gF2, hE2, ?_, ?_, hh2, hf2, by omega, by omega, ?_, rfl⟩
          · rw [hpl1]
          · rw [hlr]
            show pr ++ (s :: r.lines) ++ po = _
            simp [List.append_assoc]
          · rw [hpl1]
            omega
          · rw [hpl1]
            exact (Sim.cmb ⟨hm2, hl2, ho2⟩).trans hSim
    | iff t A e B r =>
      have z0 : (Blk.iff t A e B r).size = A.size + (if e = true then B.size + 1 else 0) + r.size + 2 := rfl
      obtain ⟨hh1, hh2, hh3, hh4⟩ := id hrH
      obtain ⟨hf1, hf2, hf3, hf4⟩ := id hrF
      have hdr : (ls.map V.str)[pr.length]? = some (.str t) := by
        rw [List.getElem?_map, hlr]
        show (((pr ++ (t :: _)) ++ po)[pr.length]?).map V.str = _
        rw [List.append_assoc, List.getElem?_append_right (Nat.le_refl _), Nat.sub_self]
        rfl
      have hat : atI (ls.map V.str) (((pr.length + 1 : Nat) : Int) - 1) = some (.str t) := by
        rw [show ((pr.length + 1 : Nat) : Int) - 1 = ((pr.length : Nat) : Int) by omega]
        exact atI_nat hdr
      have hsl : t ∈ ls := by
        rw [hlr]
        exact List.mem_append_left _ (List.mem_append_right _ (List.mem_cons_self ..))
      have hslen := (hok t hsl).2
      refine ifT3 (decide_eq_true (by omega)) ?_
      refine ⟨_, fun _ _ h => h, ?_⟩
      refine ⟨_, rfl, _, rfl, _, _, rfl, rfl, a, _, _, _, rfl, rfl, hG.seq ha, hat, (by show 2 ≤ sizeLine; decide), fun q nq => ?_⟩
      have sq := Same.new (o := .lst (quits.map V.str)) nq
      refine ⟨q, _, rfl, .inl (SqL.of upd_same), rfl, flat_str quits, ?_⟩
      rw [if_neg Bool.false_ne_true]
      refine ⟨_, rfl, ?_⟩
      have inQ : inV (V.str t) [V.str "quit", V.str "no"] = decide (t ∈ quits) := inV_str _ quits
      rw [inQ]
      refine ifF3 (decide_eq_false hf1.2) ?_
      refine ⟨_, rfl, (by show 1 ≤ sizeLine; decide), fun l1 nl1 => ⟨(by show 1 ≤ sizeLine; decide), fun T0 nT => ?_⟩⟩
      have sA := sq.trans ((Same.new (o := .lst [.int ((pr.length + 1 : Nat) : Int)]) nl1).trans (Same.new (o := .lst [.ref l1]) nT))
      refine ⟨_, rfl, _, _, rfl, ?_⟩
      refine ⟨_, rfl, _, rfl, _, _, rfl, rfl, a, _, _, _, rfl, rfl, (hG.trans sA).seq ha, hat, _, rfl, t, rfl, Nat.le_of_lt (small1000 (by omega)), rfl, _, rfl, ?_⟩
      refine ifT3 (decide_eq_true (congrArg V.str hf1.1)) ?_
      refine rI _ _ Fd t A e B r pr po pr.length _ _ _ _ _ _ _ (hG.trans sA) hlr rfl hrH hrF (by omega) hri fun G2 T v7 v8 v10 s2 hT => ?_
      have hSim : Sim (comb (comb xs (Blk.lTail pr.length (lw A (pr.length + 1)) (if e = true then lw B (Blk.p1 pr.length A + 1) else [([], false)]))) (lw r (Blk.p2 pr.length A e B + 1))) (lw b pre.length) := (Sim.assoc _ _ _).trans hS
      have rr1 := (Blk.lw_len r (Blk.p2 pr.length A e B + 1)).2
      have e21 : Blk.p2 pr.length A e B + 1 = pr.length + (A.size + (if e = true then B.size + 1 else 0) + 2) := by
        cases e with
        | true =>
          show pr.length + 1 + A.size + 1 + B.size + 1 = pr.length + (A.size + (B.size + 1) + 2)
          omega
        | false =>
          show pr.length + 1 + A.size + 1 = pr.length + (A.size + 0 + 2)
          omega
      have ez : (if e = true then B.size + 1 else 0) = 0 ∨ (if e = true then B.size + 1 else 0) = B.size + 1 := by cases e <;> simp
      have tails : ∀ x ∈ Blk.lTail pr.length (lw A (pr.length + 1)) (if e = true then lw B (Blk.p1 pr.length A + 1) else [([], false)]), (∀ n ∈ x.1, 1 ≤ n) ∧ x.1.length ≤ 100 := fun x hx => by
        rcases List.mem_append.mp hx with h | h
        · obtain ⟨y, hy, rfl⟩ := List.mem_map.mp h
          have q1 := lw_wlen A _ y hy
          refine ⟨fun n hn => ?_, by show y.1.length + 1 ≤ 100; omega⟩
          rcases List.mem_cons.mp hn with z | z
          · omega
          · exact lw_pos A _ y hy n z
        · obtain ⟨y, hy, rfl⟩ := List.mem_map.mp h
          cases e with
          | true =>
            have q1 := lw_wlen B _ y hy
            rw [if_pos rfl] at z0
            refine ⟨fun n hn => ?_, by show y.1.length + 1 ≤ 100; omega⟩
            rcases List.mem_cons.mp hn with z | z
            · omega
            · exact lw_pos B _ y hy n z
          | false =>
            rw [List.mem_singleton.mp hy]
            refine ⟨fun n hn => ?_, by show 0 + 1 ≤ 100; decide⟩
            rw [List.mem_singleton.mp hn]
            omega
      have tot : (comb xs (Blk.lTail pr.length (lw A (pr.length + 1)) (if e = true then lw B (Blk.p1 pr.length A + 1) else [([], false)]))).length ≤ 64 := by
        have h1 := comb_le (F := comb xs (Blk.lTail pr.length (lw A (pr.length + 1)) (if e = true then lw B (Blk.p1 pr.length A + 1) else [([], false)]))) rr1
        have h2 := hSim.len
        omega
      have hplX : (pr ++ (t :: (A.lines ++ ((if e = true then ("else" : Str) :: B.lines else []) ++ [("end" : Str)])))).length = Blk.p2 pr.length A e B + 1 := by
        rw [e21]
        rw [List.length_append, List.length_cons, List.length_append, List.length_append, Blk.size_lines]
        cases e with
        | true =>
          show pr.length + (A.size + (B.lines.length + 1 + 1) + 1) = pr.length + (A.size + (B.size + 1) + 2)
          rw [Blk.size_lines]
          omega
        | false =>
          show pr.length + (A.size + (0 + 1) + 1) = pr.length + (A.size + 0 + 2)
          omega
      refine rL _ _ Fd T as xs _ (Blk.p2 pr.length A e B + 1) _ _ _ _ _ _ ((hG.trans sA).trans s2) (s2 _ _ (sA _ _ gF)) (hE.keep (sA.trans s2)) (by omega) hT ?_ hxb tails tot fun G3 Fd2 as2 xs2 v9 v10 s3 gF2 hE2 hm2 hl2 ho2 => ?_
      · have q1 := comb_le (F := Blk.lTail pr.length (lw A (pr.length + 1)) (if e = true then lw B (Blk.p1 pr.length A + 1) else [([], false)])) rr1
        have q2 := (Blk.lw_len (Blk.iff t A e B r) pr.length).1
        have q3 : 2 ^ (Blk.iff t A e B r).ifs ≤ 2 ^ 6 := Nat.pow_le_pow_right (by decide) hri
        have q4 : (lw (Blk.iff t A e B r) pr.length).length = (comb (Blk.lTail pr.length (lw A (pr.length + 1)) (if e = true then lw B (Blk.p1 pr.length A + 1) else [([], false)])) (lw r (Blk.p2 pr.length A e B + 1))).length := rfl
        omega
      · refine ⟨r.size, by omega, Fd2, as2, xs2, r, pr ++ (t :: (A.lines ++ ((if e = true then ("else" : Str) :: B.lines else []) ++ [("end" : Str)]))), po, some (.ref T), some (.int ((Blk.p2 pr.length A e B + 1 : Nat) : Int)), v7, v8, v9, v10, v11, ?_, ((hG.trans sA).trans s2).trans s3, gF2, hE2, ?_, ?_, hh4, hf4, ?_, by omega, ?_, rfl⟩
        · rw [hplX]
        · rw [hlr]
          show pr ++ (t :: (A.lines ++ ((if e = true then ("else" : Str) :: B.lines else []) ++ ("end" : Str) :: r.lines))) ++ po = _
          simp [List.append_assoc]
        · rw [hplX]
          omega
        · have : (Blk.iff t A e B r).ifs = A.ifs + (if e = true then B.ifs else 0) + r.ifs + 1 := rfl
          omega
        · rw [hplX]
          exact (Sim.cmb ⟨hm2, hl2, ho2⟩).trans hSim
theorem ok_lws {f fB : Addr} {fd fdB : FuncData} (F : Fun K "_law_ways" "_law_ways" sLWays f fd) (T : TxtB mg)
    (GB : FnOk P w K mg base CX0 1 fB fdB ["_law_lines_here", "_law_at"] (spLBlock K)) (kB : PySem.W.keepIn K (.ref fB) = true) (bB : Binds K fdB ["_law_lines_here", "_law_at"] []) (gB : mg "_law_block" = some (.ref fB))
    (gf : mg "_law_ways" = some (.ref f)) (bf : Binds K fd ["_law_lines_here", "_law_first", "_law_last"] []) : ∀ n, FnOk P w K mg base CX0 (n + 2) f fd ["_law_lines_here", "_law_first", "_law_last"] (spLW K n)
  | 0 => ok_lw F T GB kB bB gB gf bf 0 fun k z => nomatch z
  | n + 1 => ok_lw F T GB kB bB gB gf bf (n + 1) fun k z => by
    cases z
    exact ok_lws F T GB kB bB gB gf bf n
end
end K15

set_option Elab.async false
set_option linter.all false
set_option maxRecDepth 100000
set_option maxHeartbeats 8000000
/-! The law: what a line reads, writes; strange lines -/
namespace K15
open PySem L2
open K15D (TxtB)
abbrev sLReads : Stmt := top 66
abbrev sLWrites : Stmt := top 67
abbrev sLStrange : Stmt := top 69
def readL : List Str := ["size", "next", "prev"]
def writeL : List Str := ["head", "size", "foot", "next", "prev", "used", "free", "ahead"]
def eq1 (s : Str) : Prop := ((Txt.split s " ").drop 1).take 1 = [("=" : Str)]
instance (s : Str) : Decidable (eq1 s) := inferInstanceAs (Decidable (_ = _))
def readsM (s : Str) : Nat := if hd s = "if" then ((Txt.split s " ").filter fun x => decide (x = ("used" : Str))).length else if eq1 s ∧ wd (Txt.split s " ") 2 ∈ readL then 1 else 0
def writesM (s : Str) : Nat := if hd s ∈ writeL then 1 else 0
def strangeM (kd s : Str) : Bool := decide ((s = "no" ∧ kd ∈ [("free" : Str), "cut"]) ∨ (("want" : Str) ∈ Txt.split s " " ∧ kd = "free"))
/-- a line that is looked into -/
def LookOk (s : Str) : Prop := RowOk s ∧ (eq1 s → 3 ≤ (Txt.split s " ").length) ∧ (Txt.split s " ").length ≤ 100
def spLReads : Sp := fun vs H Q _ => ∃ s : Str, vs = [.str s] ∧ LookOk s ∧ ∀ H', Same H H' → Q (.int (readsM s : Nat)) H'
def spLWrites : Sp := fun vs H Q _ => ∃ s : Str, vs = [.str s] ∧ LookOk s ∧ ∀ H', Same H H' → Q (.int (writesM s : Nat)) H'
def spLStrange : Sp := fun vs H Q _ => ∃ kd s : Str, vs = [.str kd, .str s] ∧ RowOk s ∧ ∀ H', Same H H' → Q (.bl (strangeM kd s)) H'
section
variable {P : Program} {w : World} {K : PySem.W.Frag} {mg : Str → Option Value} {base : Heap}
abbrev nmLR : List Str := ["_law_text", "_law_words", "_law_word"]
theorem scLR : FnScope nmLR ["_law_text"] (defScope sLReads) := ⟨rfl, rfl, rfl, by decide +kernel, rfl, by decide +kernel, by decide +kernel⟩
theorem ok_lreads {f : Addr} {fd : FuncData} (F : Fun K "_law_reads" "_law_reads" sLReads f fd) (T : TxtB mg) : FnOk P w K mg base CX0 1 f fd ["_law_text"] spLReads := by
  refine F.ok scLR (fun vs H Q E h => ?_) (fun cdv A outer s H vs Q E hr h => ?_)
  · obtain ⟨s, rfl, _⟩ := h
    rfl
  · obtain ⟨s, rfl, ⟨⟨q1, q2, q3, q4⟩, h3, h100⟩, k⟩ := h
    refine ⟨_, pss_cons (ps_set (i := 1) scLR.nd rfl (.inl rfl) (pe_split (pv 0) pe_str))
      (pss_cons (ps_if (pt_cmpR op_eq (pe_ix ix_list (pv 1) pe_int (fun _ _ => rfl)) pe_str (nomark _))
        (pss_one (ps_ret (pe_callB call_len_seq (by rfl) T.len PySem.boot_len (pa_cons (pe_lc (own := [("_law_word", 2)]) (g := gName 2) (te := tVar 2) rfl scLR.nd (by exact pi_list (pv 1)) (blkOk_by (own := [("_law_word", 2)]) (N := nmLR) (sc := defScope sLReads) (by decide +kernel)) (fun _ _ _ _ _ => pg_name (i := 2) scLR.nd rfl (Or.inl rfl)) (fun _ _ _ _ _ => pts_one (pt_cmpR op_eq (pv 2) pe_str (nomark _))) (fun _ _ _ _ _ => pv 2)) pa_nil)))) pss_nil)
      (pss_one (ps_ret (pe_callTy call_int1 (by rfl) T.int (by decide +kernel) (pa_cons (pe_and (pe_cmpR (op_eqD hr.units) (pe_slice sl_list (pv 1) (po_some pe_int) (po_some pe_int)) (pe_lst (pa_cons pe_str pa_nil)) (nomark _)) (pe_one (pe_cmpR op_in_seq (pe_ix ix_list (pv 1) pe_int (fun _ _ => rfl)) (pe_lst (pa_cons pe_str (pa_cons pe_str (pa_cons pe_str pa_nil)))) (by rfl)))) pa_nil))))), ?_⟩
    refine ⟨_, rfl, ⟨_, rfl⟩, s, _, rfl, rfl, rfl, q1, fun q nq => ?_⟩
    obtain ⟨W, hW⟩ : ∃ W, W = Txt.split s " " := ⟨_, rfl⟩
    rw [← hW] at q2 q3 q4 h3 h100 ⊢
    have sq := Same.new (o := .lst (W.map V.str)) nq
    have gW : (upd H q (.lst (W.map V.str))) q = some (.lst (W.map V.str)) := upd_same
    have at0 := at_pos (ws := W) (i := 0) (List.length_pos_iff.mpr q3)
    have hhd : hd s = W.getD 0 Str.empty := by rw [hW]; rfl
    unfold readsM at k
    rw [← hW, hhd] at k
    refine ⟨_, rfl, q, _, 0, _, rfl, rfl, SqL.of gW, at0, rfl, _, rfl, ?_⟩
    by_cases h1 : W.getD 0 Str.empty = "if"
    · rw [if_pos h1] at k
      refine ifT3 (decide_eq_true (congrArg V.str h1)) ?_
      refine ⟨_, rfl, q, rfl, ⟨_, SqL.of gW⟩, fun D nD => ?_⟩
      refine lc_list (K := K) (a := q) (xs := W.map V.str) (fun i G => Same (upd H q (.lst (W.map V.str))) G ∧ G D = some (.lst (((W.take i).filter fun x => decide (x = ("used" : Str))).map V.str))) ⟨Same.new nD, upd_same⟩ (fun i G _ ⟨e, _⟩ => SqL.of (e _ _ gW)) ?_ ?_
      · rintro i y G hi ⟨sG, gD⟩
        obtain ⟨x, hx, rfl⟩ : ∃ x, W[i]? = some x ∧ y = V.str x := by
          rw [List.getElem?_map] at hi
          cases e : W[i]? with
          | none => rw [e] at hi; cases hi
          | some z => rw [e] at hi; exact ⟨z, rfl, (Option.some.inj hi).symm⟩
        refine ⟨rfl, ?_⟩
        refine ⟨_, rfl, rfl, _, rfl, ?_⟩
        rw [take_more hx, List.filter_append]
        by_cases e : x = "used"
        · refine ifT3 (decide_eq_true (congrArg V.str e)) ?_
          refine ⟨_, rfl, _, gD, small1000 (by
            rw [List.length_map]
            exact Nat.le_trans (List.length_filter_le _ _) (by rw [List.length_take]; omega)), Same.write sG nD, ?_⟩
          have e1 : ([x].filter fun x => decide (x = ("used" : Str))) = [x] := by
            rw [List.filter_cons, decide_eq_true e]
            rfl
          rw [e1, upd_same, List.map_append]
          rfl
        · refine ifF3 (decide_eq_false fun z => e (V.str.inj z)) ?_
          have e1 : ([x].filter fun x => decide (x = ("used" : Str))) = [] := by
            rw [List.filter_cons, decide_eq_false e]
            rfl
          rw [e1, List.append_nil]
          exact ⟨sG, gD⟩
      · rintro G ⟨sG, gD⟩
        rw [List.length_map, List.take_length] at gD
        refine ⟨D, _, rfl, .inl (SqL.of gD), ?_⟩
        have z := k G (sq.trans sG)
        rw [← List.length_map (f := V.str)] at z
        exact z
    rw [if_neg h1] at k
    refine ifF3 (decide_eq_false fun z => h1 (V.str.inj z)) ?_
    refine nxt ?_
    dsimp only
    refine ⟨_, rfl, _, rfl, _, rfl, q, _, rfl, SqL.of gW, fun c2 nc2 => ?_⟩
    rw [K15.cut_12]
    have sq2 := Same.new (o := .lst (((W.drop 1).take 1).map V.str)) nc2
    refine ⟨(by show 1 ≤ sizeLine; decide), fun c3 nc3 => ?_⟩
    have sq3 := Same.new (o := .lst [.str "="]) nc3
    have okT : WsOk ((W.drop 1).take 1) := fun w hw => q2 w (List.mem_of_mem_drop (List.mem_of_mem_take hw))
    refine ⟨.list (((W.drop 1).take 1).map PyData.str), .list ([("=" : Str)].map PyData.str), .lst (SqL.of (sq3 _ _ upd_same)) (dpWs _), .lst (SqL.of (xs := [("=" : Str)].map V.str) upd_same) (dpWs _), shapedWs okT, by decide +kernel, ?_⟩
    rw [eqvL]
    have s23 := sq2.trans sq3
    refine ⟨_, rfl, ?_⟩
    by_cases h2 : (W.drop 1).take 1 = [("=" : Str)]
    · have h2' : eq1 s := by
        unfold eq1
        rw [← hW]
        exact h2
      have l3 := h3 h2'
      refine ifT3 (decide_eq_true h2) ?_
      refine ⟨_, rfl, q, _, 2, _, rfl, rfl, SqL.of (s23 _ _ gW), wd_at (i := 2) (by omega), (by show 3 ≤ sizeLine; decide), fun l1 n1 => ?_⟩
      have s4 := Same.new (o := .lst (readL.map V.str)) n1
      refine ⟨l1, _, rfl, .inl (SqL.of upd_same), rfl, flat_str readL, ?_⟩
      rw [if_neg Bool.false_ne_true]
      refine .inr ⟨_, rfl, ?_⟩
      have z := k _ (sq.trans (s23.trans s4))
      have e1 : inV (V.str (wd W 2)) (readL.map V.str) = decide (wd W 2 ∈ readL) := inV_str _ _
      show Q (V.int (if inV (V.str (wd W 2)) (readL.map V.str) = true then 1 else 0)) _
      rw [e1]
      by_cases h4 : wd W 2 ∈ readL
      · rw [if_pos ⟨h2', h4⟩] at z
        rw [decide_eq_true h4]
        exact z
      · rw [if_neg fun y => h4 y.2] at z
        rw [decide_eq_false h4]
        exact z
    · refine ifF3 (decide_eq_false h2) ?_
      refine .inr ⟨_, rfl, ?_⟩
      have z := k _ (sq.trans s23)
      rw [if_neg fun y => h2 (by have := y.1; unfold eq1 at this; rw [← hW] at this; exact this)] at z
      exact z
abbrev nmLWr : List Str := ["_law_text", "_law_words"]
theorem scLWr : FnScope nmLWr ["_law_text"] (defScope sLWrites) := ⟨rfl, rfl, rfl, by decide +kernel, rfl, by decide +kernel, by decide +kernel⟩
theorem ok_lwrites {f : Addr} {fd : FuncData} (F : Fun K "_law_writes" "_law_writes" sLWrites f fd) (T : TxtB mg) : FnOk P w K mg base CX0 1 f fd ["_law_text"] spLWrites := by
  refine F.ok scLWr (fun vs H Q E h => ?_) (fun cdv A outer s H vs Q E hr h => ?_)
  · obtain ⟨s, rfl, _⟩ := h
    rfl
  · obtain ⟨s, rfl, ⟨⟨q1, q2, q3, q4⟩, h3, h100⟩, k⟩ := h
    refine ⟨_, pss_cons (ps_set (i := 1) scLWr.nd rfl (.inl rfl) (pe_split (pv 0) pe_str))
      (pss_one (ps_ret (pe_callTy call_int1 (by rfl) T.int (by decide +kernel) (pa_cons (pe_cmpR op_in_seq (pe_ix ix_list (pv 1) pe_int (fun _ _ => rfl)) (pe_lst (pa_cons pe_str (pa_cons pe_str (pa_cons pe_str (pa_cons pe_str (pa_cons pe_str (pa_cons pe_str (pa_cons pe_str (pa_cons pe_str pa_nil))))))))) (by rfl)) pa_nil)))), ?_⟩
    refine ⟨_, rfl, ⟨_, rfl⟩, s, _, rfl, rfl, rfl, q1, fun q nq => ?_⟩
    obtain ⟨W, hW⟩ : ∃ W, W = Txt.split s " " := ⟨_, rfl⟩
    rw [← hW] at q2 q3 q4 h3 h100 ⊢
    have sq := Same.new (o := .lst (W.map V.str)) nq
    have gW : (upd H q (.lst (W.map V.str))) q = some (.lst (W.map V.str)) := upd_same
    have at0 := at_pos (ws := W) (i := 0) (List.length_pos_iff.mpr q3)
    have hhd : hd s = W.getD 0 Str.empty := by rw [hW]; rfl
    unfold writesM at k
    rw [hhd] at k
    refine ⟨_, rfl, q, _, 0, _, rfl, rfl, SqL.of gW, at0, (by show 8 ≤ sizeLine; decide), fun l1 n1 => ?_⟩
    have s4 := Same.new (o := .lst (writeL.map V.str)) n1
    refine ⟨l1, _, rfl, .inl (SqL.of upd_same), rfl, flat_str writeL, ?_⟩
    rw [if_neg Bool.false_ne_true]
    refine .inr ⟨_, rfl, ?_⟩
    have z := k _ (sq.trans s4)
    have e1 : inV (V.str (W.getD 0 Str.empty)) (writeL.map V.str) = decide (W.getD 0 Str.empty ∈ writeL) := inV_str _ _
    show Q (V.int (if inV (V.str (W.getD 0 Str.empty)) (writeL.map V.str) = true then 1 else 0)) _
    rw [e1]
    by_cases h4 : W.getD 0 Str.empty ∈ writeL
    · rw [if_pos h4] at z
      rw [decide_eq_true h4]
      exact z
    · rw [if_neg h4] at z
      rw [decide_eq_false h4]
      exact z
abbrev nmLSt : List Str := ["_law_kind", "_law_text"]
theorem scLSt : FnScope nmLSt ["_law_kind", "_law_text"] (defScope sLStrange) := ⟨rfl, rfl, rfl, by decide +kernel, rfl, by decide +kernel, by decide +kernel⟩
theorem ok_lstrange {f : Addr} {fd : FuncData} (F : Fun K "_law_strange" "_law_strange" sLStrange f fd) : FnOk P w K mg base CX0 1 f fd ["_law_kind", "_law_text"] spLStrange := by
  refine F.ok scLSt (fun vs H Q E h => ?_) (fun cdv A outer s H vs Q E hr h => ?_)
  · obtain ⟨kd, s, rfl, _⟩ := h
    rfl
  · obtain ⟨kd, s, rfl, ⟨q1, q2, q3, q4⟩, k⟩ := h
    refine ⟨_, pss_one (ps_ret (pe_or (pe_and (pe_cmpR op_eq (pv 1) pe_str (nomark _)) (pe_one (pe_cmpR op_in_seq (pv 0) (pe_lst (pa_cons pe_str (pa_cons pe_str pa_nil))) (by rfl)))) (pe_one (pe_and (pe_cmpR op_in_seq pe_str (pe_split (pv 1) pe_str) (by rfl)) (pe_one (pe_cmpR op_eq (pv 0) pe_str (nomark _))))))), ?_⟩
    have rest : ∀ G, Same H G → ¬ (s = "no" ∧ kd ∈ [("free" : Str), "cut"]) → tAndV (tOp (rIn K false) (tC (.str "want")) (tM1 (fun x xs H Q => ∃ a b, x = V.str a ∧ xs = [V.str b] ∧ (b.length == 0) = false ∧ a.length + 2 ≤ sizeLine ∧ rNewStrs (Txt.split a b) H Q) (tVar 1) (tC (.str " ")))) (tOp rEq (tVar 0) (tC (.str "free"))) [some (.str kd), some (.str s)] G Q := fun G sG hno => by
      refine ⟨_, rfl, ⟨_, rfl⟩, s, _, rfl, rfl, rfl, q1, fun q nq => ?_⟩
      have sq := Same.new (o := .lst ((Txt.split s " ").map V.str)) nq
      refine ⟨q, _, rfl, .inl (SqL.of upd_same), rfl, flat_str _, ?_⟩
      rw [if_neg Bool.false_ne_true, inV_str]
      refine ⟨_, rfl, ?_⟩
      have z := k _ (sG.trans sq)
      unfold strangeM at z
      by_cases h1 : ("want" : Str) ∈ Txt.split s " "
      · refine ifT3 (decide_eq_true h1) ?_
        refine ⟨_, rfl, rfl, ?_⟩
        rw [dec_str]
        rw [show decide ((s = "no" ∧ kd ∈ [("free" : Str), "cut"]) ∨ (("want" : Str) ∈ Txt.split s " " ∧ kd = "free")) = decide (kd = "free") from decide_eq_decide.mpr ⟨fun h => (h.resolve_left hno).2, fun h => .inr ⟨h1, h⟩⟩] at z
        exact z
      · refine ifF3 (decide_eq_false h1) ?_
        rw [decide_eq_false (fun h => h1 (h.resolve_left hno).1)] at z
        exact z
    refine ⟨_, rfl, rfl, ?_⟩
    rw [dec_str]
    refine ⟨_, rfl, ?_⟩
    by_cases h1 : s = "no"
    · refine ifT3 (decide_eq_true h1) ?_
      refine ⟨_, rfl, (by show 2 ≤ sizeLine; decide), fun l1 n1 => ?_⟩
      have s4 := Same.new (o := .lst ([("free" : Str), "cut"].map V.str)) n1
      refine ⟨l1, _, rfl, .inl (SqL.of upd_same), rfl, flat_str [("free" : Str), "cut"], ?_⟩
      rw [if_neg Bool.false_ne_true]
      have e1 : inV (V.str kd) ([("free" : Str), "cut"].map V.str) = decide (kd ∈ [("free" : Str), "cut"]) := inV_str _ _
      refine ⟨_, rfl, ?_⟩
      show (if inV (V.str kd) ([("free" : Str), "cut"].map V.str) = true then _ else _)
      rw [e1]
      by_cases h2 : kd ∈ [("free" : Str), "cut"]
      · refine ifT3 (decide_eq_true h2) ?_
        have z := k _ s4
        unfold strangeM at z
        rw [decide_eq_true (.inl ⟨h1, h2⟩)] at z
        exact z
      · refine ifF3 (decide_eq_false h2) ?_
        exact rest _ s4 fun z => h2 z.2
    · refine ifF3 (decide_eq_false h1) ?_
      refine ⟨_, rfl, ?_⟩
      refine ifF3 rfl ?_
      exact rest _ (Same.refl _) fun z => h1 z.1
end
end K15

set_option Elab.async false
set_option linter.all false
set_option maxRecDepth 100000
set_option maxHeartbeats 8000000
/-! The law: the lines at which a way breaks a limit -/
namespace K15
open PySem L2
open K15D (TxtB)
open Blk (LWay)
abbrev sLFaults2 : Stmt := top 68
def limW (m : Str) : Nat := if m ∈ regsL then 3 else 4
def ownB (s : Str) (seen : List Str) : Prop := eq1 s ∧ limW (hd s) < (seen ++ [hd s]).count (hd s)
def rwB (s : Str) (rd wr : Nat) : Prop := (12 < rd + readsM s ∧ 0 < readsM s) ∨ (14 < wr + writesM s ∧ 0 < writesM s)
instance (s : Str) (seen : List Str) : Decidable (ownB s seen) := inferInstanceAs (Decidable (_ ∧ _))
instance (s : Str) (rd wr : Nat) : Decidable (rwB s rd wr) := inferInstanceAs (Decidable (_ ∨ _))
def faultGo (ls : List Str) : List Nat → List Str → Nat → Nat → List Nat
  | [], _, _, _ => []
  | n :: r, seen, rd, wr => (if ownB (ls.getD (n - 1) Str.empty) seen then [n] else []) ++ ((if rwB (ls.getD (n - 1) Str.empty) rd wr then [n] else []) ++
      faultGo ls r (if eq1 (ls.getD (n - 1) Str.empty) then seen ++ [hd (ls.getD (n - 1) Str.empty)] else seen) (rd + readsM (ls.getD (n - 1) Str.empty)) (wr + writesM (ls.getD (n - 1) Str.empty)))
def spLF (K : PySem.W.Frag) : Sp := fun vs H Q _ => ∃ (a tl : Addr) (ls : List Str) (x : LWay), vs = [.ref a, .ref tl] ∧ SqL K H a (ls.map V.str) ∧ H tl = some (.lst (encL x)) ∧ (∀ n ∈ x.1, 1 ≤ n ∧ n ≤ ls.length) ∧ ls.length ≤ 100 ∧ x.1.length ≤ 100 ∧ (∀ s ∈ ls, LookOk s) ∧
  ∀ R H', Same H H' → H' R = some (.lst (intsV (faultGo ls x.1 [] 0 0))) → Q (.ref R) H'
abbrev fFor : Stmt := (defBody sLFaults2).getD 1 passS
abbrev fSuite : List Stmt := forBody fFor
section
variable {P : Program} {w : World} {K : PySem.W.Frag} {mg : Str → Option Value} {base : Heap}
abbrev nmLF : List Str := ["_law_lines_here", "_law_told", "_law_found", "_law_seen", "_law_reads_here", "_law_writes_here", "_law_line", "_law_text", "_law_words", "_law_read", "_law_wrote"]
theorem scLF : FnScope nmLF ["_law_lines_here", "_law_told"] (defScope sLFaults2) := ⟨rfl, rfl, rfl, by decide +kernel, rfl, by decide +kernel, by decide +kernel⟩
theorem ok_lf {f fR fW : Addr} {fd fdR fdW : FuncData} (F : Fun K "_law_faults" "_law_faults" sLFaults2 f fd) (T : TxtB mg)
    (GR : FnOk P w K mg base CX0 1 fR fdR ["_law_text"] spLReads) (kR : PySem.W.keepIn K (.ref fR) = true) (bR : Binds K fdR ["_law_text"] []) (gR : mg "_law_reads" = some (.ref fR))
    (GW : FnOk P w K mg base CX0 1 fW fdW ["_law_text"] spLWrites) (kW : PySem.W.keepIn K (.ref fW) = true) (bW : Binds K fdW ["_law_text"] []) (gW : mg "_law_writes" = some (.ref fW)) :
    FnOk P w K mg base CX0 2 f fd ["_law_lines_here", "_law_told"] (spLF K) := by
  refine F.ok scLF (fun vs H Q E h => ?_) (fun cdv A outer s H vs Q E hr h => ?_)
  · obtain ⟨a, tl, ls, x, rfl, _⟩ := h
    rfl
  · obtain ⟨a, tl, ls, x, rfl, ha, htl, hx, hl, hxl, hok, k⟩ := h
    have hu := hu_of hr
    obtain ⟨tR, pR, rR⟩ : ∃ tR, PSs (cxOf CX0 P w K mg base nmLF "_law_faults" (defScope sLFaults2) f cdv A outer s H E).nox (fSuite.drop 3) tR ∧
        ∀ (D : Ends) (G : Hp) (F0 M0 q : Addr) (found : List Nat) (rd wr n : Nat) (s : Str) (v9 v10 : Option V), G F0 = some (.lst (intsV found)) → found.length ≤ 300 → LookOk s →
          (∀ (G2 : Hp) (v9 v10 : Option V), (∀ b u, G b = some u → b ≠ F0 → G2 b = some u) → G2 F0 = some (.lst (intsV (found ++ (if rwB s rd wr then [n] else [])))) → D.nx [some (.ref a), some (.ref tl), some (.ref F0), some (.ref M0), some (.int ((rd + readsM s : Nat) : Int)), some (.int ((wr + writesM s : Nat) : Int)), some (.int (n : Nat)), some (.str s), some (.ref q), v9, v10] G2) →
          tR D [some (.ref a), some (.ref tl), some (.ref F0), some (.ref M0), some (.int (rd : Nat)), some (.int (wr : Nat)), some (.int (n : Nat)), some (.str s), some (.ref q), v9, v10] G := by
      refine ⟨_, pss_cons (ps_par (i := 9) (j := 10) rfl scLF.nd rfl rfl (by decide) rfl rfl (pa_cons (pe_call GR hr rfl gR kR bR .nil pass0 (pa_cons (pv 7) pa_nil)) (pa_cons (pe_call GW hr rfl gW kW bW .nil pass0 (pa_cons (pv 7) pa_nil)) pa_nil)) (by rfl))
        (pss_cons (ps_par (i := 4) (j := 5) rfl scLF.nd rfl rfl (by decide) rfl rfl (pa_cons (pe_op op_add (pv 4) (pv 9)) (pa_cons (pe_op op_add (pv 5) (pv 10)) pa_nil)) (by rfl))
        (pss_one (ps_if (PW.pt (pw_or (PW.pt (pw_and (pt_cmpR op_gt (pv 4) pe_int (nomark _)) (pw_and1 (pt_cmpR op_gt (pv 9) pe_int (nomark _))))) (pw_or1 (PW.pt (pw_and (pt_cmpR op_gt (pv 5) pe_int (nomark _)) (pw_and1 (pt_cmpR op_gt (pv 10) pe_int (nomark _))))))))
          (pss_one (ps_expr (pe_bm PySem.F.plainAttrs_list PySem.F.slot_list_append PySem.F.type_list_append mt_append (pv 2) (pa_cons (pv 6) pa_nil)))) pss_nil))), ?_⟩
      intro D G F0 M0 q found rd wr n s v9 v10 gF hfl hs hnx
      refine ⟨_, rfl, s, rfl, hs, fun G1 s1 => ⟨_, rfl, s, rfl, hs, fun G2 s2 => ⟨_, _, rfl, ?_⟩⟩⟩
      refine ⟨_, rfl, _, rfl, _, _, rfl, rfl, _, rfl, _, rfl, _, _, rfl, rfl, _, _, rfl, ?_⟩
      have s12 := s1.trans s2
      have g4 : ∀ c : Nat, ∀ G : Hp, ∀ Q : Bool → Hp → Prop, Q (decide (c < rd + readsM s)) G → Q (decide ((c : Int) < (rd : Int) + (readsM s : Int))) G := fun c G Q h => by
        rw [show decide ((c : Int) < (rd : Int) + (readsM s : Int)) = decide (c < rd + readsM s) from decide_eq_decide.mpr ⟨fun h => by omega, fun h => by omega⟩]
        exact h
      have g5 : ∀ c : Nat, ∀ G : Hp, ∀ Q : Bool → Hp → Prop, Q (decide (c < wr + writesM s)) G → Q (decide ((c : Int) < (wr : Int) + (writesM s : Int))) G := fun c G Q h => by
        rw [show decide ((c : Int) < (wr : Int) + (writesM s : Int)) = decide (c < wr + writesM s) from decide_eq_decide.mpr ⟨fun h => by omega, fun h => by omega⟩]
        exact h
      have g0 : ∀ m : Nat, ∀ G : Hp, ∀ Q : Bool → Hp → Prop, Q (decide (0 < m)) G → Q (decide ((0 : Int) < (m : Int))) G := fun m G Q h => by
        rw [show decide ((0 : Int) < (m : Int)) = decide (0 < m) from decide_eq_decide.mpr ⟨fun h => by omega, fun h => by omega⟩]
        exact h
      dsimp only
      refine Says.ite (p := rwB s rd wr) (Says.or (Says.and (fun Q h => ⟨_, rfl, _, _, rfl, rfl, _, rfl, g4 12 _ Q (h _ (Same.refl _))⟩) (fun G1 _ _ => fun Q h => ⟨_, rfl, _, _, rfl, rfl, _, rfl, g0 _ _ Q (h _ (Same.refl _))⟩)) (fun G1 _ _ => Says.and (fun Q h => ⟨_, rfl, _, _, rfl, rfl, _, rfl, g5 14 _ Q (h _ (Same.refl _))⟩) (fun G1 _ _ => fun Q h => ⟨_, rfl, _, _, rfl, rfl, _, rfl, g0 _ _ Q (h _ (Same.refl _))⟩))) (fun G3 s3 hp => ?_) (fun G3 s3 hp => ?_)
      · have g3 := s3 _ _ (s12 _ _ gF)
        refine ⟨_, rfl, .inl ⟨rfl, _, SqL.of g3⟩, _, rfl, F0, _, _, rfl, rfl, g3, small1000 (by unfold intsV; rw [List.length_map]; omega), ?_⟩
        refine hnx _ _ _ (fun b u e n => by rw [upd_ne n]; exact (s12.trans s3) _ _ e) ?_
        rw [if_pos hp, upd_same]
        unfold intsV
        rw [List.map_append]
        rfl
      · refine nxt ?_
        refine hnx _ _ _ (fun b u e n => (s12.trans s3) _ _ e) ?_
        rw [if_neg hp, List.append_nil]
        exact (s12.trans s3) _ _ gF
    refine ⟨_, pss_cons (ps_asg (pe_tup (pa_cons (pe_lst pa_nil) (pa_cons pe_dnewK (pa_cons pe_int (pa_cons pe_int pa_nil))))) (pg_tup rfl (pgs_cons (pg_name (i := 2) scLF.nd rfl (.inl rfl)) (pgs_cons (pg_name (i := 3) scLF.nd rfl (.inl rfl)) (pgs_cons (pg_name (i := 4) scLF.nd rfl (.inl rfl)) (pgs_cons (pg_name (i := 5) scLF.nd rfl (.inl rfl)) pgs_nil))))))
      (pss_cons (ps_for PassesOwn.never rfl (by exact pi_list (pe_lc (own := [("_law_line", 6)]) (g := gName 6) (te := tVar 6) rfl scLF.nd (by exact pi_list (pv 1)) (blkOk_by (own := [("_law_line", 6)]) (N := nmLF) (sc := defScope sLFaults2) (by decide +kernel)) (fun _ _ _ _ _ => pg_name (i := 6) scLF.nd rfl (Or.inl rfl)) (fun _ _ _ _ _ => pts_one (pt_cmpR op_gt (pv 6) pe_int (nomark _))) (fun _ _ _ _ _ => pv 6))) (pg_name (i := 6) scLF.nd rfl (Or.inl rfl))
        (pss_cons (ps_set (i := 7) scLF.nd rfl (.inl rfl) (pe_ix ix_list (pv 0) (pe_op op_sub (pv 6) pe_int) (fun _ _ => rfl)))
        (pss_cons (ps_set (i := 8) scLF.nd rfl (.inl rfl) (pe_split (pv 7) pe_str))
        (pss_cons (ps_if (pt_cmpR (op_eqD hr.units) (pe_slice sl_list (pv 8) (po_some pe_int) (po_some pe_int)) (pe_lst (pa_cons pe_str pa_nil)) (nomark _))
          (pss_cons (ps_dput hu (pv 3) (pe_ix ix_list (pv 8) pe_int (fun _ _ => rfl)) (pe_op op_add (pe_dget2 hu (pv 3) (pe_ix ix_list (pv 8) pe_int (fun _ _ => rfl)) pe_int ⟨rfl, rfl, rfl, rfl⟩) pe_int) rfl)
          (pss_one (ps_if (pt_cmpR op_gt (pe_dget hu (pv 3) (pe_ix ix_list (pv 8) pe_int (fun _ _ => rfl)) (fun _ _ => rfl)) (pe_ifExp (pt_cmpR op_in_seq (pe_ix ix_list (pv 8) pe_int (fun _ _ => rfl)) (pe_lst (pa_cons pe_str (pa_cons pe_str (pa_cons pe_str pa_nil)))) (by rfl)) pe_int pe_int) (nomark _))
            (pss_one (ps_expr (pe_bm PySem.F.plainAttrs_list PySem.F.slot_list_append PySem.F.type_list_append mt_append (pv 2) (pa_cons (pv 6) pa_nil)))) pss_nil))) pss_nil) pR))))
      (pss_one (ps_ret (pv 2)))), ?_⟩
    refine ⟨(by show 0 ≤ sizeLine; decide), fun F0 nF => ?_⟩
    have s1 := Same.new (o := .lst []) nF
    intro M0 nM
    have s2 := Same.new (o := .dK []) nM
    refine ⟨(by show 4 ≤ sizeLine; decide), fun t0 n0 => ?_⟩
    have s3 := Same.new (o := .tup [.ref F0, .ref M0, .int 0, .int 0]) n0
    refine ⟨t0, _, rfl, SqT.of upd_same, rfl, _, _, rfl, _, _, rfl, _, _, rfl, _, _, rfl, rfl, ?_⟩
    obtain ⟨H0, hH0⟩ : ∃ H0, H0 = upd (upd (upd H F0 (.lst [])) M0 (.dK [])) t0 (.tup [.ref F0, .ref M0, .int 0, .int 0]) := ⟨_, rfl⟩
    have sA : Same H H0 := by rw [hH0]; exact s1.trans (s2.trans s3)
    have gF0 : H0 F0 = some (.lst []) := by rw [hH0]; exact s3 _ _ (s2 _ _ upd_same)
    have gM0 : H0 M0 = some (.dK []) := by rw [hH0]; exact s3 _ _ upd_same
    have FM : F0 ≠ M0 := ne_of_none upd_same nM
    have HM : H M0 = none := none_of s1 nM
    show tSeq _ _ _ _ (upd (upd (upd H F0 (.lst [])) M0 (.dK [])) t0 (.tup [.ref F0, .ref M0, .int 0, .int 0]))
    rw [← hH0]
    have henc : (encL x).length ≤ x.1.length + 1 := encL_len x
    refine ⟨_, rfl, tl, rfl, ⟨_, SqL.of (sA _ _ htl)⟩, fun D nD => ?_⟩
    refine lc_list (K := K) (a := tl) (xs := encL x) (fun i G => Same H0 G ∧ G D = some (.lst (intsV (x.1.take i)))) ⟨Same.new nD, upd_same⟩ (fun i G _ ⟨e, _⟩ => SqL.of (e _ _ (sA _ _ htl))) ?_ ?_
    · rintro i y G hi ⟨hG, gD⟩
      refine ⟨rfl, ?_⟩
      have hlen : (intsV (x.1.take i)).length ≤ 100 := by
        unfold intsV
        rw [List.length_map, List.length_take]
        omega
      by_cases hil : i < x.1.length
      · have hn : x.1[i]? = some x.1[i] := List.getElem?_eq_getElem hil
        obtain ⟨n1, n2⟩ := hx _ (List.getElem_mem hil)
        have hy : y = V.int ((x.1[i] : Nat) : Int) := by
          unfold encL intsV at hi
          rw [List.getElem?_append_left (by rw [List.length_map]; exact hil), List.getElem?_map, hn] at hi
          exact (Option.some.inj hi).symm
        subst hy
        refine ⟨_, rfl, _, _, rfl, rfl, _, rfl, ?_⟩
        refine ifT3 (decide_eq_true (by omega)) ?_
        refine ⟨_, rfl, _, gD, small1000 (by omega), Same.write hG nD, ?_⟩
        rw [take_more hn]
        unfold intsV
        rw [List.map_append]
        exact upd_same
      · have hy : y = V.int 0 := by
          unfold encL intsV at hi
          rw [List.getElem?_append_right (by rw [List.length_map]; omega)] at hi
          have hm := List.mem_of_getElem? hi
          by_cases e : x.2 = true
          · rw [if_pos e] at hm
            exact List.mem_singleton.mp hm
          · rw [if_neg e] at hm
            cases hm
        subst hy
        refine ⟨_, rfl, _, _, rfl, rfl, _, rfl, ?_⟩
        refine iteF ?_
        refine ⟨hG, ?_⟩
        rw [List.take_of_length_le (by omega)] at gD ⊢
        exact gD
    · rintro G ⟨hG, gD⟩
      rw [List.take_of_length_le (by
        unfold encL intsV
        rw [List.length_append, List.length_map]
        omega)] at gD
      have hHG := sA.trans hG
      have gF := hG _ _ gF0
      have gM := hG _ _ gM0
      have DF : D ≠ F0 := (ne_of_none gF0 nD).symm
      have DM : D ≠ M0 := (ne_of_none gM0 nD).symm
      refine ⟨D, rfl, ⟨_, SqL.of gD⟩, for_list (K := K) (a := D) (xs := intsV x.1) (fun i σ G => ∃ (found : List Nat) (rd wr : Nat) (seen : List Str) (kvs : List (Key × V)) (v6 v7 v8 v9 v10 : Option V), σ = [some (.ref a), some (.ref tl), some (.ref F0), some (.ref M0), some (.int (rd : Nat)), some (.int (wr : Nat)), v6, v7, v8, v9, v10] ∧ Same H G ∧ G D = some (.lst (intsV x.1)) ∧ G F0 = some (.lst (intsV found)) ∧
        G M0 = some (.dK kvs) ∧ Cnts kvs seen ∧ found.length ≤ 2 * i ∧ seen.length ≤ i ∧ found ++ faultGo ls (x.1.drop i) seen rd wr = faultGo ls x.1 [] 0 0)
        ⟨[], 0, 0, [], [], none, none, none, none, none, rfl, hHG, gD, gF, gM, ⟨fun m => rfl, Nat.le_refl _⟩, Nat.le_refl _, Nat.le_refl _, rfl⟩ (fun i σ G _ ⟨_, _, _, _, _, _, _, _, _, _, _, _, e, _⟩ => SqL.of e) ?_ ?_⟩
      · rintro i y σ G2 hi ⟨found, rd, wr, seen, kvs, v6, v7, v8, v9, v10, rfl, hG2, g2D, g2F, g2M, hC, hfl, hsl, hgo⟩
        obtain ⟨n, hn, rfl⟩ : ∃ n, x.1[i]? = some n ∧ y = V.int (n : Nat) := by
          unfold intsV at hi
          rw [List.getElem?_map] at hi
          cases e : x.1[i]? with
          | none => rw [e] at hi; cases hi
          | some z => rw [e] at hi; exact ⟨z, rfl, (Option.some.inj hi).symm⟩
        have hil := (List.getElem?_eq_some_iff.mp hn).1
        obtain ⟨n1, n2⟩ := hx n (List.mem_of_getElem? hn)
        obtain ⟨s, hs⟩ : ∃ s, ls[n - 1]? = some s := ⟨_, List.getElem?_eq_getElem (by omega)⟩
        have hlook := hok s (List.mem_of_getElem? hs)
        obtain ⟨⟨q1, q2, q3, q4⟩, h3, h100⟩ := id hlook
        have hgd : ls.getD (n - 1) Str.empty = s := by
          rw [List.getD_eq_getElem?_getD, hs]
          rfl
        have hat : atI (ls.map V.str) ((n : Int) - 1) = some (.str s) := by
          rw [show (n : Int) - 1 = ((n - 1 : Nat) : Int) by omega]
          exact atI_nat (by rw [List.getElem?_map, hs]; rfl)
        rw [drop_cons hn] at hgo
        have hgo' : found ++ ((if ownB s seen then [n] else []) ++ ((if rwB s rd wr then [n] else []) ++ faultGo ls (x.1.drop (i + 1)) (if eq1 s then seen ++ [hd s] else seen) (rd + readsM s) (wr + writesM s))) = faultGo ls x.1 [] 0 0 := by
          rw [← hgo, ← hgd]
          rfl
        obtain ⟨W, hW⟩ : ∃ W, W = Txt.split s " " := ⟨_, rfl⟩
        have hhd : hd s = W.getD 0 Str.empty := by rw [hW]; rfl
        refine ⟨_, rfl, _, rfl, _, _, rfl, rfl, a, _, _, _, rfl, rfl, hG2.seq ha, hat, ?_⟩
        refine ⟨_, rfl, ⟨_, rfl⟩, s, _, rfl, rfl, rfl, q1, fun q nq => ?_⟩
        rw [← hW] at q2 q3 q4 ⊢
        have sq := Same.new (o := .lst (W.map V.str)) nq
        have gW : (upd G2 q (.lst (W.map V.str))) q = some (.lst (W.map V.str)) := upd_same
        refine ⟨_, rfl, _, rfl, _, rfl, q, _, rfl, SqL.of gW, fun c2 nc2 => ?_⟩
        rw [K15.cut_12]
        have sq2 := Same.new (o := .lst (((W.drop 1).take 1).map V.str)) nc2
        refine ⟨(by show 1 ≤ sizeLine; decide), fun c3 nc3 => ?_⟩
        have sq3 := Same.new (o := .lst [.str "="]) nc3
        have okT : WsOk ((W.drop 1).take 1) := fun w hw => q2 w (List.mem_of_mem_drop (List.mem_of_mem_take hw))
        refine ⟨.list (((W.drop 1).take 1).map PyData.str), .list ([("=" : Str)].map PyData.str), .lst (SqL.of (sq3 _ _ upd_same)) (dpWs _), .lst (SqL.of (xs := [("=" : Str)].map V.str) upd_same) (dpWs _), shapedWs okT, by decide +kernel, ?_⟩
        rw [eqvL]
        have s6 := sq.trans (sq2.trans sq3)
        refine ⟨_, rfl, ?_⟩
        -- what is left of the suite, behind what the own name told
        have nxt : ∀ (G8 : Hp) (seen2 : List Str) (kvs2 : List (Key × V)), Same H G8 → G8 D = some (.lst (intsV x.1)) → G8 F0 = some (.lst (intsV (found ++ if ownB s seen then [n] else []))) → G8 M0 = some (.dK kvs2) → Cnts kvs2 seen2 → seen2 = (if eq1 s then seen ++ [hd s] else seen) →
            ∀ (Dn : Ends), (∀ (σ : L2.St) (G9 : Hp), (∃ (found : List Nat) (rd wr : Nat) (seen : List Str) (kvs : List (Key × V)) (v6 v7 v8 v9 v10 : Option V), σ = [some (.ref a), some (.ref tl), some (.ref F0), some (.ref M0), some (.int (rd : Nat)), some (.int (wr : Nat)), v6, v7, v8, v9, v10] ∧ Same H G9 ∧ G9 D = some (.lst (intsV x.1)) ∧ G9 F0 = some (.lst (intsV found)) ∧
        G9 M0 = some (.dK kvs) ∧ Cnts kvs seen ∧ found.length ≤ 2 * (i + 1) ∧ seen.length ≤ i + 1 ∧ found ++ faultGo ls (x.1.drop (i + 1)) seen rd wr = faultGo ls x.1 [] 0 0) → Dn.nx σ G9) →
            tR Dn [some (.ref a), some (.ref tl), some (.ref F0), some (.ref M0), some (.int (rd : Nat)), some (.int (wr : Nat)), some (.int (n : Nat)), some (.str s), some (.ref q), v9, v10] G8 := fun G8 seen2 kvs2 h8 e1 e2 e3 hC2 hs2 Dn hDn => by
          have lo : (found ++ if ownB s seen then [n] else []).length ≤ 2 * i + 1 := by
            rw [List.length_append]
            split
            · show found.length + 1 ≤ _; omega
            · show found.length + 0 ≤ _; omega
          refine rR Dn G8 F0 M0 q _ rd wr n s v9 v10 e2 (by omega) hlook fun G9 w9 w10 hk gF9 => hDn _ _ ⟨_, rd + readsM s, wr + writesM s, seen2, kvs2, _, _, _, w9, w10, rfl, ?_, hk _ _ e1 DF, gF9, hk _ _ e3 FM.symm, hC2, ?_, ?_, ?_⟩
          · intro b u e
            exact hk _ _ (h8 _ _ e) fun z => by rw [z, nF] at e; cases e
          · have lr : (if rwB s rd wr then [n] else []).length ≤ 1 := by
              split
              · exact Nat.le_refl 1
              · exact Nat.zero_le 1
            rw [List.length_append]
            omega
          · rw [hs2]
            split
            · rw [List.length_append]; show seen.length + 1 ≤ _; omega
            · omega
          · rw [← hgo', hs2, List.append_assoc, List.append_assoc]
        by_cases he : (W.drop 1).take 1 = [("=" : Str)]
        case neg =>
          have heq : ¬ eq1 s := fun z => he (by unfold eq1 at z; rw [← hW] at z; exact z)
          refine ifF3 (decide_eq_false he) ?_
          refine K15.nxt ?_
          dsimp only
          exact nxt _ seen kvs (hG2.trans s6) (s6 _ _ g2D) (by rw [if_neg fun z => heq z.1, List.append_nil]; exact s6 _ _ g2F) (s6 _ _ g2M) hC (by rw [if_neg heq]) _ (fun σ G9 h => h)
        have heq : eq1 s := by
          unfold eq1
          rw [← hW]
          exact he
        refine ifT3 (decide_eq_true he) ?_
        obtain ⟨m, hm⟩ : ∃ m, m = hd s := ⟨_, rfl⟩
        have at0 : atI (W.map V.str) 0 = some (V.str m) := by
          rw [hm, hhd]
          exact at_pos (ws := W) (i := 0) (List.length_pos_iff.mpr q3)
        have g6M := s6 _ _ g2M
        have g6W := (sq2.trans sq3) _ _ gW
        have hget : (valV kvs (Sum.inr m)).getD (.int 0) = .int ((seen.count m : Nat) : Int) := by
          rw [hC.1 m]
          by_cases z : seen.count m = 0
          · rw [if_pos z, z]
            rfl
          · rw [if_neg z]
            rfl
        have hk2 := hC.2
        have hC3 := hC.put m
        have qM : q ≠ M0 := (ne_of_none g2M nq).symm
        obtain ⟨G8, hG8⟩ : ∃ G8, G8 = upd (upd (upd (upd G2 q (.lst (W.map V.str))) c2 (.lst (((W.drop 1).take 1).map V.str))) c3 (.lst [.str "="])) M0 (.dK (putK kvs (Sum.inr m) (.int ((seen.count m : Nat) + 1 : Int)))) := ⟨_, rfl⟩
        have g8M : G8 M0 = some (.dK (putK kvs (Sum.inr m) (.int ((seen.count m : Nat) + 1 : Int)))) := by rw [hG8]; exact upd_same
        have g8W : G8 q = some (.lst (W.map V.str)) := by rw [hG8, upd_ne qM]; exact g6W
        have g8F : G8 F0 = some (.lst (intsV found)) := by rw [hG8, upd_ne FM]; exact s6 _ _ g2F
        have g8D : G8 D = some (.lst (intsV x.1)) := by rw [hG8, upd_ne DM]; exact s6 _ _ g2D
        have h8 : Same H G8 := by rw [hG8]; exact Same.write (hG2.trans s6) HM
        refine ⟨_, rfl, M0, rfl, .inl ⟨_, .inl g6M⟩, _, rfl, q, _, 0, _, rfl, rfl, SqL.of g6W, at0, _, DGet.k (k := Sum.inr m) g6M, _, _, hget, rfl, _, rfl, _, rfl, q, _, 0, _, rfl, rfl, SqL.of g6W, at0, M0, _, rfl, DPut.k (k := Sum.inr m) g6M (small1000 (by omega)), ?_⟩
        show tSeq _ _ _ _ (upd (upd (upd (upd G2 q (.lst (W.map V.str))) c2 (.lst (((W.drop 1).take 1).map V.str))) c3 (.lst [.str "="])) M0 (.dK (putK kvs (Sum.inr m) (.int ((seen.count m : Nat) + 1 : Int)))))
        rw [← hG8]
        have hcnt : (seen ++ [m]).count m = seen.count m + 1 := by
          rw [List.count_append, List.count_singleton]
          simp
        have hv3 : valV (putK kvs (Sum.inr m) (.int ((seen.count m : Nat) + 1 : Int))) (Sum.inr m) = some (.int ((seen.count m : Nat) + 1 : Int)) := by
          rw [valV_put, if_pos rfl]
        have dM : DGet G8 M0 (.str m) (some (.int ((seen.count m : Nat) + 1 : Int))) := by
          rw [← hv3]
          exact DGet.k (k := Sum.inr m) g8M
        refine ⟨_, rfl, _, rfl, q, _, 0, _, rfl, rfl, SqL.of g8W, at0, M0, _, rfl, dM, _, rfl, q, _, 0, _, rfl, rfl, SqL.of g8W, at0, (by show 3 ≤ sizeLine; decide), fun l1 n1 => ?_⟩
        have s9 := Same.new (o := .lst (regsL.map V.str)) n1
        refine ⟨l1, _, rfl, .inl (SqL.of upd_same), rfl, flat_str regsL, ?_⟩
        rw [if_neg Bool.false_ne_true]
        refine ⟨_, rfl, ?_⟩
        have e1 : inV (V.str m) (regsL.map V.str) = decide (m ∈ regsL) := inV_str _ _
        show (if inV (V.str m) (regsL.map V.str) = true then _ else _)
        rw [e1]
        by_cases hreg : m ∈ regsL
        · skip
          refine ifT3 (decide_eq_true hreg) ?_
          refine ⟨_, _, rfl, rfl, _, rfl, ?_⟩
          have hl3 : limW m = 3 := if_pos hreg
          by_cases hit : 3 < seen.count m + 1
          · refine ifT3 (decide_eq_true (by omega)) ?_
            have ho : ownB s seen := ⟨heq, by rw [← hm, hl3, hcnt]; exact hit⟩
            refine ⟨_, rfl, .inl ⟨rfl, _, SqL.of (s9 _ _ g8F)⟩, _, rfl, F0, _, _, rfl, rfl, s9 _ _ g8F, small1000 (by unfold intsV; rw [List.length_map]; omega), ?_⟩
            dsimp only
            refine nxt _ (seen ++ [m]) _ (Same.write (h8.trans s9) nF) (by rw [upd_ne DF]; exact s9 _ _ g8D) ?_ (by rw [upd_ne FM.symm]; exact s9 _ _ g8M) hC3 (by rw [if_pos heq, hm]) _ (fun σ G9 h => h)
            rw [if_pos ho, upd_same]
            unfold intsV
            rw [List.map_append]
            rfl
          · refine ifF3 (decide_eq_false (by omega)) ?_
            have ho : ¬ ownB s seen := fun z => hit (by have z2 := z.2; rw [← hm, hl3, hcnt] at z2; exact z2)
            refine K15.nxt ?_
            dsimp only
            exact nxt _ (seen ++ [m]) _ (h8.trans s9) (s9 _ _ g8D) (by rw [if_neg ho, List.append_nil]; exact s9 _ _ g8F) (s9 _ _ g8M) hC3 (by rw [if_pos heq, hm]) _ (fun σ G9 h => h)
        · skip
          refine ifF3 (decide_eq_false hreg) ?_
          refine ⟨_, _, rfl, rfl, _, rfl, ?_⟩
          have hl3 : limW m = 4 := if_neg hreg
          by_cases hit : 4 < seen.count m + 1
          · refine ifT3 (decide_eq_true (by omega)) ?_
            have ho : ownB s seen := ⟨heq, by rw [← hm, hl3, hcnt]; exact hit⟩
            refine ⟨_, rfl, .inl ⟨rfl, _, SqL.of (s9 _ _ g8F)⟩, _, rfl, F0, _, _, rfl, rfl, s9 _ _ g8F, small1000 (by unfold intsV; rw [List.length_map]; omega), ?_⟩
            dsimp only
            refine nxt _ (seen ++ [m]) _ (Same.write (h8.trans s9) nF) (by rw [upd_ne DF]; exact s9 _ _ g8D) ?_ (by rw [upd_ne FM.symm]; exact s9 _ _ g8M) hC3 (by rw [if_pos heq, hm]) _ (fun σ G9 h => h)
            rw [if_pos ho, upd_same]
            unfold intsV
            rw [List.map_append]
            rfl
          · refine ifF3 (decide_eq_false (by omega)) ?_
            have ho : ¬ ownB s seen := fun z => hit (by have z2 := z.2; rw [← hm, hl3, hcnt] at z2; exact z2)
            refine K15.nxt ?_
            dsimp only
            exact nxt _ (seen ++ [m]) _ (h8.trans s9) (s9 _ _ g8D) (by rw [if_neg ho, List.append_nil]; exact s9 _ _ g8F) (s9 _ _ g8M) hC3 (by rw [if_pos heq, hm]) _ (fun σ G9 h => h)
      · rintro σ G2 ⟨found, rd, wr, seen, kvs, v6, v7, v8, v9, v10, rfl, hG2, g2D, g2F, g2M, hC, hfl, hsl, hgo⟩
        have e : (intsV x.1).length = x.1.length := List.length_map _
        rw [e, List.drop_length] at hgo
        have hgo' : found ++ [] = faultGo ls x.1 [] 0 0 := hgo
        rw [List.append_nil] at hgo'
        refine ⟨_, rfl, k F0 G2 hG2 ?_⟩
        rw [← hgo']
        exact g2F
end
end K15

set_option Elab.async false
set_option linter.all false
set_option maxRecDepth 100000
set_option maxHeartbeats 8000000
/-! Texts of trees, read -/
namespace K15
open PySem L2
namespace Blk
def LeafR (kd : Str) (f : Str → St) (s : Str) : Prop := ∀ nest, readS kd (Txt.split s " ") nest = some (f s, nest)
def TestR (kd : Str) (g : Str → PyData) (t : Str) : Prop := ∀ nest, readS kd (Txt.split t " ") nest = some (.iff (g t), nest ++ [("if" : Str)])
theorem split_else : Txt.split "else" " " = [("else" : Str)] := by decide +kernel
theorem split_end : Txt.split "end" " " = [("end" : Str)] := by decide +kernel
theorem read_else (kd : Str) (nest : List Str) : readS kd (Txt.split "else" " ") (nest ++ [("if" : Str)]) = some (.els, nest ++ [("else" : Str)]) := by
  rw [split_else]
  unfold readS
  have h1 : ¬ ([("else" : Str)].getD 0 Str.empty = "if") := by decide +kernel
  have h2 : ¬ ((nest ++ [("if" : Str)]) = [] ∨ (nest ++ [("if" : Str)]).getLast? = some ("else" : Str)) := fun z => by
    rcases z with z | z
    · exact absurd z (by simp)
    · rw [List.getLast?_concat] at z
      exact absurd (Option.some.inj z) (by decide +kernel)
  rw [if_neg h1, if_pos rfl, if_neg h2, List.dropLast_concat]
theorem read_end (kd : Str) (nest : List Str) (x : Str) : readS kd (Txt.split "end" " ") (nest ++ [x]) = some (.nd, nest) := by
  rw [split_end]
  unfold readS
  have h1 : ¬ ([("end" : Str)].getD 0 Str.empty = "if") := by decide +kernel
  have h2 : ¬ ([("end" : Str)] = [("else" : Str)]) := by decide +kernel
  rw [if_neg h1, if_neg h2, if_pos rfl, if_neg (by simp), List.dropLast_concat]
theorem go_cons {kd r : Str} {rs : List Str} {acc : List St} {nest n2 : List Str} {st : St} (h : readS kd (Txt.split r " ") nest = some (st, n2)) : readGo kd (r :: rs) acc nest = readGo kd rs (acc ++ [st]) n2 := by
  show (match readS kd (Txt.split r " ") nest with
    | none => none
    | some (st, n2) => readGo kd rs (acc ++ [st]) n2) = _
  rw [h]
theorem read_blk (kd : Str) (f : Str → St) (g : Str → PyData) : ∀ (b : Blk), b.All (LeafR kd f) (TestR kd g) → ∀ (rest : List Str) (acc : List St) (nest : List Str), readGo kd (b.lines ++ rest) acc nest = readGo kd rest (acc ++ b.steps f g) nest
  | nil, _, rest, acc, nest => by
    show readGo kd rest acc nest = readGo kd rest (acc ++ []) nest
    rw [List.append_nil]
  | leaf s r, ⟨h1, h2⟩, rest, acc, nest => by
    show readGo kd (s :: (r.lines ++ rest)) acc nest = readGo kd rest (acc ++ (f s :: r.steps f g)) nest
    rw [go_cons (h1 nest), read_blk kd f g r h2, List.append_assoc]
    rfl
  | iff t a e b r, ⟨h1, h2, h3, h4⟩, rest, acc, nest => by
    cases e with
    | true =>
      show readGo kd (t :: ((a.lines ++ ((("else" : Str) :: b.lines) ++ ("end" : Str) :: r.lines)) ++ rest)) acc nest = readGo kd rest (acc ++ (.iff (g t) :: (a.steps f g ++ ((St.els :: b.steps f g) ++ St.nd :: r.steps f g)))) nest
      rw [go_cons (h1 nest), List.append_assoc, read_blk kd f g a h2, List.append_assoc, List.cons_append, go_cons (read_else kd nest), read_blk kd f g b (h3 rfl), List.cons_append, go_cons (read_end kd nest _), read_blk kd f g r h4]
      simp [List.append_assoc]
    | false =>
      show readGo kd (t :: ((a.lines ++ (("end" : Str) :: r.lines)) ++ rest)) acc nest = readGo kd rest (acc ++ (.iff (g t) :: (a.steps f g ++ St.nd :: r.steps f g))) nest
      rw [go_cons (h1 nest), List.append_assoc, read_blk kd f g a h2, List.cons_append, go_cons (read_end kd nest _), read_blk kd f g r h4]
      simp [List.append_assoc]
theorem read_all (kd : Str) (f : Str → St) (g : Str → PyData) (b : Blk) (h : b.All (LeafR kd f) (TestR kd g)) : readGo kd b.lines [] [] = some (b.steps f g, []) := by
  have e := read_blk kd f g b h [] [] []
  rw [List.append_nil] at e
  rw [e]
  rfl
/-- ifs are counted -/
theorem countIf (f : Str → St) (g : Str → PyData) : ∀ (b : Blk), Plain f b → (b.steps f g).countP isIf = b.ifs
  | nil, _ => rfl
  | leaf s r, ⟨h1, h2, h3, h4⟩ => by
    have z : isIf (f s) = false := by
      cases e : f s with
      | iff c => exact absurd e (h1 c)
      | _ => rfl
    show (f s :: r.steps f g).countP isIf = r.ifs
    rw [List.countP_cons, countIf f g r h4, z]
    rfl
  | iff t a e b r, ⟨h1, h2, h3⟩ => by
    cases e with
    | true =>
      show (St.iff (g t) :: (a.steps f g ++ ((St.els :: b.steps f g) ++ St.nd :: r.steps f g))).countP isIf = a.ifs + b.ifs + r.ifs + 1
      rw [List.countP_cons, List.countP_append, List.countP_append, List.countP_cons, List.countP_cons, countIf f g a h1, countIf f g b (h2 rfl), countIf f g r h3]
      show a.ifs + (b.ifs + 0 + (r.ifs + 0)) + 1 = _
      omega
    | false =>
      show (St.iff (g t) :: (a.steps f g ++ (St.nd :: r.steps f g))).countP isIf = a.ifs + 0 + r.ifs + 1
      rw [List.countP_cons, List.countP_append, List.countP_cons, countIf f g a h1, countIf f g r h3]
      show a.ifs + (r.ifs + 0) + 1 = _
      omega
end Blk
end K15

set_option Elab.async false
set_option linter.all false
set_option maxRecDepth 100000
set_option maxHeartbeats 8000000
/-! All lines that the law draws: what is said of them, looked at one by one; texts of them -/
namespace K15
open PySem L2
/-- a line as it may stand in a text of the law -/
structure LnOk (s : Str) : Prop where
  ne : Txt.split s " " ≠ []
  len : s.length ≤ 100
  pos : 0 < s.length
  few : (Txt.split s " ").length ≤ 100
  ws : WsOk (Txt.split s " ")
  nl : 10 ∉ TL.tl s
theorem small102 {n : Nat} (h : n ≤ 100) : n + 2 ≤ sizeLine := Nat.le_trans (Nat.add_le_add_right h 2) (by decide)
theorem LnOk.row {s : Str} (h : LnOk s) : RowOk s := ⟨small102 h.len, h.ws, h.ne, Nat.le_trans h.few (by decide)⟩
theorem LnOk.line {s : Str} (h : LnOk s) : LineOk s := ⟨small102 h.len, h.ne⟩
theorem LnOk.wline {s : Str} (h : LnOk s) : WLineOk s := ⟨h.line, h.len⟩
def wsB (ws : List Str) : Bool := ws.all (fun w => decide (w.length ≤ 10) && (!Txt.isdigit w || (intText? w).isSome) && PyData.canLay0 (.str w))
theorem ws_of {ws : List Str} (h : wsB ws = true) : WsOk ws := fun w hw => by
  have e := List.all_eq_true.mp h w hw
  rw [Bool.and_eq_true, Bool.and_eq_true] at e
  obtain ⟨⟨e1, e2⟩, e3⟩ := e
  refine ⟨Nat.le_trans (of_decide_eq_true e1) (by decide), fun hd _ => ?_, e3⟩
  rw [hd] at e2
  exact Option.isSome_iff_exists.mp e2
theorem nl_of {s : Str} (h : (!(s.cps.toList.contains 10)) = true) : 10 ∉ TL.tl s := fun z => by
  rw [List.contains_iff_mem.mpr z] at h
  cases h
def lnB (s : Str) : Bool := decide (Txt.split s " " ≠ []) && decide (s.length ≤ 100) && decide (0 < s.length) && decide ((Txt.split s " ").length ≤ 100) && wsB (Txt.split s " ") && !(s.cps.toList.contains 10)
theorem ln_of {s : Str} (h : lnB s = true) : LnOk s := by
  unfold lnB at h
  simp only [Bool.and_eq_true] at h
  obtain ⟨⟨⟨⟨⟨h1, h2⟩, h3⟩, h4⟩, h5⟩, h6⟩ := h
  exact ⟨of_decide_eq_true h1, of_decide_eq_true h2, of_decide_eq_true h3, of_decide_eq_true h4, ws_of h5, nl_of h6⟩
theorem ln_else : LnOk "else" := ln_of (by decide +kernel)
theorem ln_end : LnOk "end" := ln_of (by decide +kernel)
def isSet : St → Bool
  | .set .. => true
  | .fin _ => true
  | _ => false
/-- what a line is told to mark -/
def marksW (s : Str) : List Str := (if eq1 s then [hd s] else []) ++ (List.replicate (readsM s) ("read" : Str) ++ List.replicate (writesM s) ("write" : Str))
/-- a line and what it does -/
def Rel (s : Str) (st : St) : Prop := st.marks = marksW s ∧ (eq1 s → hd s ∈ regsL ++ placesL) ∧ (st.sort = "no" ↔ s = "no")
instance (s : Str) (st : St) : Decidable (Rel s st) := inferInstanceAs (Decidable (_ ∧ _ ∧ _))
def lookB (s : Str) : Bool := decide (eq1 s → 3 ≤ (Txt.split s " ").length)
def leafB (s : Str) : Bool := match stepS "free" (Txt.split s " ") with
  | none => false
  | some st => isSet st && ((Blk.isFin st == Blk.isQ s) && (decide (Rel s st) && (decide ((Txt.split s " ").getD 0 Str.empty ≠ "if") && (decide (Txt.split s " " ≠ [("else" : Str)]) && (decide (Txt.split s " " ≠ [("end" : Str)]) && (decide (hd s ≠ "if") && (decide (hd s ≠ "else") && (decide (hd s ≠ "end") && (decide (cutS s none (some 3) ≠ "if ") && (lookB s && lnB s))))))))))
theorem leaves_ok : leavesL.all leafB = true := by decide +kernel
def testB (t : Str) : Bool := match testM (hPartM "free") ((Txt.split t " ").drop 1) with
  | none => false
  | some d => decide (Rel t (.iff d)) && (decide ((Txt.split t " ").getD 0 Str.empty = "if") && (decide (hd t = "if") && (decide (cutS t none (some 3) = "if ") && (decide (t ∉ quits) && (lookB t && lnB t)))))
theorem tests_ok : testsL.all testB = true := by decide +kernel
def fK (s : Str) : St := (stepS "free" (Txt.split s " ")).getD .nd
def gK (t : Str) : PyData := (testM (hPartM "free") ((Txt.split t " ").drop 1)).getD .none
/-- what is said of a leaf -/
structure LeafP (s : Str) : Prop where
  st : stepS "free" (Txt.split s " ") = some (fK s)
  set : isSet (fK s) = true
  fin : Blk.isFin (fK s) = Blk.isQ s
  rel : Rel s (fK s)
  n1 : (Txt.split s " ").getD 0 Str.empty ≠ "if"
  n2 : Txt.split s " " ≠ [("else" : Str)]
  n3 : Txt.split s " " ≠ [("end" : Str)]
  d1 : hd s ≠ "if"
  d2 : hd s ≠ "else"
  d3 : hd s ≠ "end"
  fr : cutS s none (some 3) ≠ "if "
  lk : eq1 s → 3 ≤ (Txt.split s " ").length
  ok : LnOk s
theorem leaf_of {s : Str} (hs : s ∈ leavesL) : LeafP s := by
  have h := List.all_eq_true.mp leaves_ok s hs
  unfold leafB at h
  cases e : stepS "free" (Txt.split s " ") with
  | none =>
    rw [e] at h
    cases h
  | some st =>
    have ef : fK s = st := by
      unfold fK
      rw [e]
      rfl
    rw [e] at h
    simp only [Bool.and_eq_true] at h
    obtain ⟨h1, h2, h3, h4, h5, h6, h7, h8, h9, h10, h11, h12⟩ := h
    exact ⟨by rw [ef]; exact e, by rw [ef]; exact h1, by rw [ef]; exact beq_iff_eq.mp h2, by rw [ef]; exact of_decide_eq_true h3, of_decide_eq_true h4, of_decide_eq_true h5, of_decide_eq_true h6, of_decide_eq_true h7, of_decide_eq_true h8, of_decide_eq_true h9, of_decide_eq_true h10, of_decide_eq_true h11, ln_of h12⟩
structure TestP (t : Str) : Prop where
  te : testM (hPartM "free") ((Txt.split t " ").drop 1) = some (gK t)
  rel : Rel t (.iff (gK t))
  n1 : (Txt.split t " ").getD 0 Str.empty = "if"
  d1 : hd t = "if"
  fr : cutS t none (some 3) = "if "
  nq : t ∉ quits
  lk : eq1 t → 3 ≤ (Txt.split t " ").length
  ok : LnOk t
theorem test_of {t : Str} (ht : t ∈ testsL) : TestP t := by
  have h := List.all_eq_true.mp tests_ok t ht
  unfold testB at h
  cases e : testM (hPartM "free") ((Txt.split t " ").drop 1) with
  | none =>
    rw [e] at h
    cases h
  | some c =>
    have ef : gK t = c := by
      unfold gK
      rw [e]
      rfl
    rw [e] at h
    simp only [Bool.and_eq_true] at h
    obtain ⟨h1, h2, h3, h4, h5, h6, h7⟩ := h
    exact ⟨by rw [ef]; exact e, by rw [ef]; exact of_decide_eq_true h1, of_decide_eq_true h2, of_decide_eq_true h3, of_decide_eq_true h4, of_decide_eq_true h5, of_decide_eq_true h6, ln_of h7⟩
namespace Blk
theorem all_imp {F F' T T' : Str → Prop} (hf : ∀ s, F s → F' s) (ht : ∀ t, T t → T' t) : ∀ {b : Blk}, b.All F T → b.All F' T'
  | nil, _ => trivial
  | leaf s r, ⟨h1, h2⟩ => ⟨hf s h1, all_imp hf ht h2⟩
  | iff t a e b r, ⟨h1, h2, h3, h4⟩ => ⟨ht t h1, all_imp hf ht h2, fun he => all_imp hf ht (h3 he), all_imp hf ht h4⟩
theorem lines_all {Q : Str → Prop} (he : Q "else") (hn : Q "end") : ∀ {b : Blk}, b.All Q Q → ∀ s ∈ b.lines, Q s
  | nil, _, s, h => nomatch h
  | leaf x r, ⟨h1, h2⟩, s, h => by
    rcases List.mem_cons.mp h with z | z
    · rw [z]
      exact h1
    · exact lines_all he hn h2 s z
  | iff t a e b r, ⟨h1, h2, h3, h4⟩, s, h => by
    rcases List.mem_cons.mp h with z | z
    · rw [z]
      exact h1
    · rcases List.mem_append.mp z with z | z
      · exact lines_all he hn h2 s z
      · rcases List.mem_append.mp z with z | z
        · cases e with
          | false => exact nomatch z
          | true =>
            rcases List.mem_cons.mp z with z | z
            · rw [z]
              exact he
            · exact lines_all he hn (h3 rfl) s z
        · rcases List.mem_cons.mp z with z | z
          · rw [z]
            exact hn
          · exact lines_all he hn h4 s z
theorem plain_of {f : Str → St} : ∀ {b : Blk} {T : Str → Prop}, b.All (fun s => isSet (f s) = true) T → Plain f b
  | nil, _, _ => trivial
  | leaf s r, _, ⟨h1, h2⟩ => by
    refine ⟨fun c z => ?_, fun z => ?_, fun z => ?_, plain_of h2⟩ <;>
    · have h1' : isSet (f s) = true := h1
      rw [z] at h1'
      cases h1'
  | iff t a e b r, _, ⟨_, h2, h3, h4⟩ => ⟨plain_of h2, fun he => plain_of (h3 he), plain_of h4⟩
end Blk
theorem look_else : eq1 "else" → 3 ≤ (Txt.split "else" " ").length := by decide +kernel
theorem look_end : eq1 "end" → 3 ≤ (Txt.split "end" " ").length := by decide +kernel
theorem rel_else : Rel "else" .els := by decide +kernel
theorem rel_end : Rel "end" .nd := by decide +kernel
theorem rel_empty : Rel Str.empty .nd := by decide +kernel
theorem LnOk.look {s : Str} (h : LnOk s) (k : eq1 s → 3 ≤ (Txt.split s " ").length) : LookOk s := ⟨h.row, k, h.few⟩
section
variable {b : Blk}
theorem Good.p (h : Good b) : b.All LeafP TestP := Blk.all_imp (fun s hs => leaf_of hs) (fun t ht => test_of ht) h
theorem Good.read (kd : Str) (h : Good b) : b.All (Blk.LeafR kd fK) (Blk.TestR kd gK) := Blk.all_imp (fun s hs nest => by
    unfold readS
    rw [if_neg hs.n1, if_neg hs.n2, if_neg hs.n3, show stepS kd (Txt.split s " ") = stepS "free" (Txt.split s " ") from rfl, hs.st]
    rfl) (fun t ht nest => by
    unfold readS
    rw [if_pos ht.n1, show hPartM kd = hPartM "free" from rfl, ht.te]
    rfl) h.p
theorem Good.plain (h : Good b) : Blk.Plain fK b := Blk.plain_of (Blk.all_imp (fun _ hs => hs.set) (fun _ ht => ht) h.p)
theorem Good.heads (h : Good b) : b.Heads := Blk.all_imp (fun _ hs => ⟨hs.d1, hs.d2, hs.d3⟩) (fun _ ht => ht.d1) h.p
theorem Good.fronts (h : Good b) : Fronts b := Blk.all_imp (fun _ hs => hs.fr) (fun _ ht => ⟨ht.fr, ht.nq⟩) h.p
theorem Good.fins (h : Good b) : Blk.SameFin fK b := Blk.all_imp (fun _ hs => hs.fin) (fun _ _ => trivial) h.p
theorem Good.lines (h : Good b) : ∀ s ∈ b.lines, LnOk s ∧ LookOk s := Blk.lines_all ⟨ln_else, ln_else.look look_else⟩ ⟨ln_end, ln_end.look look_end⟩ (Blk.all_imp (fun _ hs => ⟨hs.ok, hs.ok.look hs.lk⟩) (fun _ ht => ⟨ht.ok, ht.ok.look ht.lk⟩) h.p)
end
/-- lines and what they do -/
def RelAll : List Str → List St → Prop
  | [], [] => True
  | s :: ls, st :: sts => Rel s st ∧ RelAll ls sts
  | _, _ => False
theorem RelAll.app : ∀ {a : List Str} {b : List St} {c : List Str} {d : List St}, RelAll a b → RelAll c d → RelAll (a ++ c) (b ++ d)
  | [], [], _, _, _, h => h
  | _ :: _, _ :: _, _, _, ⟨h1, h2⟩, h => ⟨h1, RelAll.app h2 h⟩
theorem RelAll.get : ∀ {ls : List Str} {sts : List St}, RelAll ls sts → ∀ j, Rel (ls.getD j Str.empty) (sts.getD j .nd)
  | [], [], _, j => by
    rw [List.getD_nil, List.getD_nil]
    exact rel_empty
  | _ :: _, _ :: _, ⟨h1, _⟩, 0 => h1
  | _ :: _, _ :: _, ⟨_, h2⟩, j + 1 => by
    rw [List.getD_cons_succ, List.getD_cons_succ]
    exact RelAll.get h2 j
theorem rel_blk {f : Str → St} {g : Str → PyData} : ∀ {b : Blk}, b.All (fun s => Rel s (f s)) (fun t => Rel t (.iff (g t))) → RelAll b.lines (b.steps f g)
  | .nil, _ => trivial
  | .leaf s r, ⟨h1, h2⟩ => ⟨h1, rel_blk h2⟩
  | .iff t a e b r, ⟨h1, h2, h3, h4⟩ => by
    cases e with
    | true => exact ⟨h1, (rel_blk h2).app (RelAll.app (c := ("end" : Str) :: r.lines) (d := St.nd :: r.steps f g) (a := ("else" : Str) :: b.lines) (b := St.els :: b.steps f g) ⟨rel_else, rel_blk (h3 rfl)⟩ ⟨rel_end, rel_blk h4⟩)⟩
    | false => exact ⟨h1, (rel_blk h2).app (RelAll.app (c := ("end" : Str) :: r.lines) (d := St.nd :: r.steps f g) (a := []) (b := []) trivial ⟨rel_end, rel_blk h4⟩)⟩
theorem Good.rels {b : Blk} (h : Good b) : RelAll b.lines (b.steps fK gK) := rel_blk (Blk.all_imp (fun _ hs => hs.rel) (fun _ ht => ht.rel) h.p)
theorem quit_good : Good (.leaf "quit" .nil) := ⟨(by decide +kernel : ("quit" : Str) ∈ leavesL), trivial⟩
end K15

set_option Elab.async false
set_option linter.all false
set_option maxRecDepth 100000
set_option maxHeartbeats 8000000
/-! The law's faults and the program's -/
namespace K15
open PySem L2
theorem count_snoc (l : List Str) (a m : Str) : (l ++ [a]).count m = l.count m + (if a = m then 1 else 0) := by
  rw [List.count_append, List.count_singleton]
  by_cases e : a = m
  · rw [if_pos e, if_pos (by simpa using e)]
  · rw [if_neg e, if_neg (by simpa using e)]
theorem count_rep (l : List Str) (a m : Str) (c : Nat) : (l ++ List.replicate c a).count m = l.count m + (if a = m then c else 0) := by
  rw [List.count_append, List.count_replicate]
  by_cases e : a = m
  · rw [if_pos e, if_pos (by simpa using e)]
  · rw [if_neg e, if_neg (by simpa using e)]
theorem rep_go (m : Str) (n : Nat) : ∀ (c : Nat) (X : List (Nat × Str)) (seen : List Str), seen.count m ≤ limM m →
    aboveGo limM ((List.replicate c m).map (fun m => (n, m)) ++ X) seen = if limM m < seen.count m + c then some n else aboveGo limM X (seen ++ List.replicate c m)
  | 0, X, seen, h => by
    rw [if_neg (by omega)]
    show aboveGo limM ([] ++ X) seen = aboveGo limM X (seen ++ [])
    rw [List.nil_append, List.append_nil]
  | c + 1, X, seen, h => by
    show (if limM m < seen.count m + 1 then some n else aboveGo limM ((List.replicate c m).map (fun m => (n, m)) ++ X) (seen ++ [m])) = _
    by_cases e : limM m < seen.count m + 1
    · rw [if_pos e, if_pos (by omega)]
    · have c1 : (seen ++ [m]).count m = seen.count m + 1 := by rw [count_snoc, if_pos rfl]
      rw [if_neg e, rep_go m n c X (seen ++ [m]) (by omega), c1, show seen.count m + 1 + c = seen.count m + (c + 1) by omega, List.append_assoc]
      rfl
theorem lim_own : ∀ m ∈ regsL ++ placesL, limM m = limW m ∧ m ≠ "read" ∧ m ≠ "write" := by decide +kernel
theorem lim_read : limM "read" = 12 := by decide +kernel
theorem lim_write : limM "write" = 14 := by decide +kernel
theorem rw_ne : ("read" : Str) ≠ "write" := by decide +kernel
theorem fault_rel {ls : List Str} {sts : List St} (hm : RelAll ls sts) : ∀ (wy : List Nat) (seen : List Str) (rd wr : Nat) (sA : List Str), (∀ m ∈ regsL ++ placesL, sA.count m = seen.count m) → sA.count ("read" : Str) = rd → sA.count ("write" : Str) = wr → rd ≤ 12 → wr ≤ 14 →
    (faultGo ls wy seen rd wr).head? = aboveGo limM (wayMarks sts wy) sA
  | [], _, _, _, _, _, _, _, _, _ => rfl
  | n :: r, seen, rd, wr, sA, h1, h2, h3, h4, h5 => by
    obtain ⟨g1, g2, _⟩ := hm.get (n - 1)
    obtain ⟨s, hs⟩ : ∃ s, s = ls.getD (n - 1) Str.empty := ⟨_, rfl⟩
    have hw : wayMarks sts (n :: r) = lineMarks sts n ++ wayMarks sts r := List.flatMap_cons
    have hf : faultGo ls (n :: r) seen rd wr = (if ownB s seen then [n] else []) ++ ((if rwB s rd wr then [n] else []) ++ faultGo ls r (if eq1 s then seen ++ [hd s] else seen) (rd + readsM s) (wr + writesM s)) := by rw [hs]; rfl
    have hl : lineMarks sts n = (marksW s).map fun m => (n, m) := by
      unfold lineMarks
      rw [g1, hs]
    rw [← hs] at g2
    -- behind the own mark
    have rest : ∀ (sA2 seen2 : List Str), (∀ m ∈ regsL ++ placesL, sA2.count m = seen2.count m) → sA2.count ("read" : Str) = rd → sA2.count ("write" : Str) = wr →
        ((if rwB s rd wr then [n] else []) ++ faultGo ls r seen2 (rd + readsM s) (wr + writesM s)).head? = aboveGo limM (((List.replicate (readsM s) ("read" : Str)).map fun m => (n, m)) ++ (((List.replicate (writesM s) ("write" : Str)).map fun m => (n, m)) ++ wayMarks sts r)) sA2 := fun sA2 seen2 k1 k2 k3 => by
      have cw : (sA2 ++ List.replicate (readsM s) ("read" : Str)).count ("write" : Str) = wr := by rw [count_rep, if_neg rw_ne, k3]; rfl
      rw [rep_go _ _ _ _ _ (by rw [lim_read, k2]; exact h4), lim_read, k2, rep_go _ _ _ _ _ (by rw [lim_write, cw]; exact h5), lim_write, cw]
      by_cases c1 : 12 < rd + readsM s
      · rw [if_pos c1, if_pos (show rwB s rd wr from .inl ⟨c1, by omega⟩)]
        rfl
      rw [if_neg c1]
      by_cases c2 : 14 < wr + writesM s
      · rw [if_pos c2, if_pos (show rwB s rd wr from .inr ⟨c2, by omega⟩)]
        rfl
      rw [if_neg c2, if_neg (show ¬ rwB s rd wr from fun z => by
        rcases z with z | z
        · exact c1 z.1
        · exact c2 z.1)]
      rw [List.nil_append]
      refine fault_rel hm r seen2 _ _ _ (fun m hmm => ?_) ?_ ?_ (by omega) (by omega)
      · obtain ⟨_, q1, q2⟩ := lim_own m hmm
        rw [count_rep, count_rep, if_neg q1.symm, if_neg q2.symm]
        exact k1 m hmm
      · rw [count_rep, count_rep, if_pos rfl, if_neg rw_ne.symm, k2]
        rfl
      · rw [count_rep, count_rep, if_neg rw_ne, if_pos rfl, k3]
        rfl
    rw [hw, hf, hl]
    unfold marksW
    by_cases e : eq1 s
    · obtain ⟨q0, q1, q2⟩ := lim_own _ (g2 e)
      rw [if_pos e, if_pos e, List.map_append, List.map_append, List.append_assoc, List.append_assoc]
      show _ = (if limM (hd s) < sA.count (hd s) + 1 then some n else aboveGo limM (((List.replicate (readsM s) ("read" : Str)).map fun m => (n, m)) ++ (((List.replicate (writesM s) ("write" : Str)).map fun m => (n, m)) ++ wayMarks sts r)) (sA ++ [hd s]))
      have c1 : (seen ++ [hd s]).count (hd s) = sA.count (hd s) + 1 := by rw [count_snoc, if_pos rfl, h1 _ (g2 e)]
      by_cases c : limM (hd s) < sA.count (hd s) + 1
      · rw [if_pos c, if_pos (show ownB s seen from ⟨e, by rw [c1, ← q0]; exact c⟩)]
        rfl
      · rw [if_neg c, if_neg (show ¬ ownB s seen from fun z => c (by have := z.2; rw [c1, ← q0] at this; exact this)), List.nil_append]
        refine rest (sA ++ [hd s]) (seen ++ [hd s]) (fun m hmm => by rw [count_snoc, count_snoc, h1 m hmm]) ?_ ?_
        · rw [count_snoc, if_neg q1, h2]; rfl
        · rw [count_snoc, if_neg q2, h3]; rfl
    · rw [if_neg e, if_neg e, if_neg (show ¬ ownB s seen from fun z => e z.1), List.nil_append, List.nil_append, List.map_append, List.append_assoc]
      exact rest sA seen h1 h2 h3
theorem fault_head {ls : List Str} {sts : List St} (hm : RelAll ls sts) (wy : List Nat) : (faultGo ls wy [] 0 0).head? = faultM sts wy :=
  fault_rel hm wy [] 0 0 [] (fun _ _ => rfl) rfl rfl (by decide) (by decide)
theorem fault_mem (ls : List Str) : ∀ (wy : List Nat) (seen : List Str) (rd wr : Nat), ∀ y ∈ faultGo ls wy seen rd wr, y ∈ wy
  | [], _, _, _, y, h => h
  | n :: r, seen, rd, wr, y, h => by
    have h' : y ∈ (if ownB (ls.getD (n - 1) Str.empty) seen then [n] else []) ++ ((if rwB (ls.getD (n - 1) Str.empty) rd wr then [n] else []) ++
      faultGo ls r (if eq1 (ls.getD (n - 1) Str.empty) then seen ++ [hd (ls.getD (n - 1) Str.empty)] else seen) (rd + readsM (ls.getD (n - 1) Str.empty)) (wr + writesM (ls.getD (n - 1) Str.empty))) := h
    have one : ∀ (c : Prop) [Decidable c], y ∈ (if c then [n] else []) → y = n := fun c _ z => by
      split at z
      · exact List.mem_singleton.mp z
      · cases z
    rcases List.mem_append.mp h' with z | z
    · rw [one _ z]; exact .head _
    rcases List.mem_append.mp z with z | z
    · rw [one _ z]; exact .head _
    · exact .tail _ (fault_mem ls r _ _ _ y z)
theorem fault_len (ls : List Str) : ∀ (wy : List Nat) (seen : List Str) (rd wr : Nat), (faultGo ls wy seen rd wr).length ≤ 2 * wy.length
  | [], _, _, _ => Nat.le_refl _
  | n :: r, seen, rd, wr => by
    have one : ∀ (c : Prop) [Decidable c], (if c then [n] else []).length ≤ 1 := fun c _ => by
      split
      · exact Nat.le_refl 1
      · exact Nat.zero_le 1
    show ((if ownB (ls.getD (n - 1) Str.empty) seen then [n] else []) ++ ((if rwB (ls.getD (n - 1) Str.empty) rd wr then [n] else []) ++
      faultGo ls r (if eq1 (ls.getD (n - 1) Str.empty) then seen ++ [hd (ls.getD (n - 1) Str.empty)] else seen) (rd + readsM (ls.getD (n - 1) Str.empty)) (wr + writesM (ls.getD (n - 1) Str.empty)))).length ≤ _
    rw [List.length_append, List.length_append, List.length_cons]
    have a := one (ownB (ls.getD (n - 1) Str.empty) seen)
    have b := one (rwB (ls.getD (n - 1) Str.empty) rd wr)
    have c := fault_len ls r (if eq1 (ls.getD (n - 1) Str.empty) then seen ++ [hd (ls.getD (n - 1) Str.empty)] else seen) (rd + readsM (ls.getD (n - 1) Str.empty)) (wr + writesM (ls.getD (n - 1) Str.empty))
    omega
/-- its least is its first -/
theorem fault_low (ls : List Str) : ∀ (wy : List Nat) (seen : List Str) (rd wr : Nat), wy.Pairwise (· < ·) → ∀ z, (faultGo ls wy seen rd wr).head? = some z → ∀ y ∈ faultGo ls wy seen rd wr, z ≤ y
  | [], _, _, _, _, z, h, y, hy => nomatch hy
  | n :: r, seen, rd, wr, pw, z, h, y, hy => by
    obtain ⟨p1, p2⟩ := List.pairwise_cons.mp pw
    have low : ∀ y ∈ faultGo ls (n :: r) seen rd wr, n ≤ y := fun y hy => by
      rcases List.mem_cons.mp (fault_mem ls _ _ _ _ y hy) with e | e
      · omega
      · exact Nat.le_of_lt (p1 y e)
    have h' : ((if ownB (ls.getD (n - 1) Str.empty) seen then [n] else []) ++ ((if rwB (ls.getD (n - 1) Str.empty) rd wr then [n] else []) ++
      faultGo ls r (if eq1 (ls.getD (n - 1) Str.empty) then seen ++ [hd (ls.getD (n - 1) Str.empty)] else seen) (rd + readsM (ls.getD (n - 1) Str.empty)) (wr + writesM (ls.getD (n - 1) Str.empty)))).head? = some z := h
    have hy' : y ∈ (if ownB (ls.getD (n - 1) Str.empty) seen then [n] else []) ++ ((if rwB (ls.getD (n - 1) Str.empty) rd wr then [n] else []) ++
      faultGo ls r (if eq1 (ls.getD (n - 1) Str.empty) then seen ++ [hd (ls.getD (n - 1) Str.empty)] else seen) (rd + readsM (ls.getD (n - 1) Str.empty)) (wr + writesM (ls.getD (n - 1) Str.empty))) := hy
    by_cases c1 : ownB (ls.getD (n - 1) Str.empty) seen
    · rw [if_pos c1] at h'
      have e : n = z := Option.some.inj h'
      rw [← e]
      exact low y hy
    rw [if_neg c1, List.nil_append] at h' hy'
    by_cases c2 : rwB (ls.getD (n - 1) Str.empty) rd wr
    · rw [if_pos c2] at h'
      have e : n = z := Option.some.inj h'
      rw [← e]
      exact low y hy
    rw [if_neg c2, List.nil_append] at h' hy'
    exact fault_low ls r _ _ _ p2 z h' y hy'
theorem RunEq.rise {sts : List St} {tg : List V} {R : Nat → List (List Nat)} (h : RunEq sts tg R) : ∀ (m l : Nat), sts.length - l ≤ m → l ≤ sts.length → ∀ w ∈ R l, w.Pairwise (· < ·)
  | m, l, hm, hl => by
    by_cases e : l < sts.length
    case neg =>
      rw [h.out l (by omega)]
      intro w hw
      rw [List.mem_singleton.mp hw]
      exact .nil
    have hs : sts[l]? = some sts[l] := List.getElem?_eq_getElem e
    cases m with
    | zero => omega
    | succ m =>
    have step : ∀ t, l < t → t ≤ sts.length → ∀ w ∈ (R t).map ((l + 1) :: ·), w.Pairwise (· < ·) := fun t h1 h2 w hw => by
      obtain ⟨q, hq, rfl⟩ := List.mem_map.mp hw
      have a := RunEq.rise h m t (by omega) h2 q hq
      have b := (h.within (sts.length - t) t (Nat.le_refl _) h2 q hq).2
      exact .cons (fun n hn => by have := b n hn; omega) a
    generalize sts[l] = st at hs
    cases st with
    | fin x =>
      rw [h.fin l x hs]
      intro w hw
      rw [List.mem_singleton.mp hw]
      exact List.pairwise_singleton _ _
    | nd =>
      rw [h.nd l hs]
      exact RunEq.rise h m (l + 1) (by omega) (by omega)
    | set n sm sg k => rw [h.set l _ _ _ _ hs]; exact step (l + 1) (by omega) (by omega)
    | els =>
      obtain ⟨t, _, h1, h2, h3⟩ := h.els l hs
      rw [h3]
      exact RunEq.rise h m t (by omega) h2
    | iff c =>
      obtain ⟨t, _, h1, h2, h3⟩ := h.iff l c hs
      rw [h3]
      intro w hw
      rcases List.mem_append.mp hw with z | z
      · exact step (l + 1) (by omega) (by omega) w z
      · exact step t h1 h2 w z
open Blk (LWay lw)
theorem same_ways {f : Str → St} {b : Blk} (h : Blk.SameFin f b) (r : List Nat) : r ∈ Blk.rAll f b 0 ↔ ∃ x ∈ lw b 0, r = x.1 := by
  rw [Blk.rAll_zero, Blk.ways_lw f b h]
  constructor
  · rintro ⟨x, hx, ⟨_, e⟩ | ⟨_, k, hk, e⟩⟩
    · exact ⟨x, hx, e⟩
    · rw [List.mem_singleton.mp hk, List.append_nil] at e
      exact ⟨x, hx, e⟩
  · rintro ⟨x, hx, e⟩
    refine ⟨x, hx, ?_⟩
    cases c : x.2 with
    | true => exact .inl ⟨rfl, e⟩
    | false => exact .inr ⟨rfl, [], List.mem_singleton.mpr rfl, by rw [List.append_nil]; exact e⟩
/-- all faults of the law -/
def allF (ls : List Str) (xs : List LWay) : List Nat := xs.flatMap fun x => faultGo ls x.1 [] 0 0
/-- the law's strange lines -/
def strangeL (ls : List Str) (kd : Str) (n : Nat) : List Nat := ((List.range n).filter fun i => strangeM kd (ls.getD i Str.empty)).map (· + 1)
theorem strangeL_more (ls : List Str) (kd : Str) (n : Nat) : strangeL ls kd (n + 1) = strangeL ls kd n ++ (if strangeM kd (ls.getD n Str.empty) = true then [n + 1] else []) := by
  unfold strangeL
  rw [List.range_succ, List.filter_append, List.map_append]
  congr 1
  rw [List.filter_cons, List.filter_nil]
  split <;> rfl
theorem strangeL_len (ls : List Str) (kd : Str) (n : Nat) : (strangeL ls kd n).length ≤ n := by
  unfold strangeL
  rw [List.length_map]
  exact Nat.le_trans (List.length_filter_le _ _) (Nat.le_of_eq List.length_range)
theorem strange_same {ls : List Str} {sts : List St} (hm : RelAll ls sts) (kd : Str) (n : Nat) : foreignL ls sts kd n = strangeL ls kd n := by
  unfold foreignL strangeL
  congr 1
  refine List.filter_congr fun i _ => ?_
  obtain ⟨_, _, g3⟩ := hm.get i
  unfold forM foreignM strangeM
  refine decide_eq_decide.mpr ⟨fun h => ?_, fun h => ?_⟩
  · rcases h with ⟨h1, h2⟩ | ⟨h1, h2⟩
    · exact .inr ⟨h2, h1⟩
    · refine .inl ⟨g3.mp h1, ?_⟩
      rcases h2 with h2 | h2
      · rw [h2]; exact .head _
      · rw [h2]; exact .tail _ (.head _)
  · rcases h with ⟨h1, h2⟩ | ⟨h1, h2⟩
    · refine .inr ⟨g3.mpr h1, ?_⟩
      rcases List.mem_cons.mp h2 with e | e
      · exact .inl e
      · exact .inr (List.mem_singleton.mp e)
    · exact .inl ⟨h2, h1⟩
/-- what law and program say of a text -/
structure SaysT (ls : List Str) (sts : List St) (R0 : List (List Nat)) (xs : List LWay) : Prop where
  rel : RelAll ls sts
  ri : ∀ w ∈ R0, w.Pairwise (· < ·)
  eq : ∀ r, r ∈ R0 ↔ ∃ x ∈ xs, r = x.1
theorem SaysT.none {ls : List Str} {sts : List St} {R0 : List (List Nat)} {xs : List LWay} {kd : Str} (S : SaysT ls sts R0 xs) (h : ∀ m, ¬ badM ls sts kd R0 m) : strangeL ls kd ls.length ++ allF ls xs = [] := by
  have e1 : strangeL ls kd ls.length = [] := by
    rw [← strange_same S.rel]
    exact List.eq_nil_iff_forall_not_mem.mpr fun m hm => h m (.inl hm)
  have e2 : allF ls xs = [] := by
    unfold allF
    refine List.flatMap_eq_nil_iff.mpr fun x hx => ?_
    have e : faultM sts x.1 = .none := by
      cases c : faultM sts x.1 with
      | none => rfl
      | some m => exact absurd (.inr ⟨x.1, (S.eq _).mpr ⟨x, hx, rfl⟩, c⟩) (h m)
    rw [← fault_head S.rel] at e
    exact List.head?_eq_none_iff.mp e
  rw [e1, e2]
  rfl
theorem SaysT.some {ls : List Str} {sts : List St} {R0 : List (List Nat)} {xs : List LWay} {kd : Str} (S : SaysT ls sts R0 xs) {m : Nat} (h : badM ls sts kd R0 m) (hm : ∀ y, badM ls sts kd R0 y → m ≤ y) :
    m ∈ strangeL ls kd ls.length ++ allF ls xs ∧ ∀ y ∈ strangeL ls kd ls.length ++ allF ls xs, m ≤ y := by
  constructor
  · rcases h with h | ⟨w, hw, e⟩
    · rw [strange_same S.rel] at h
      exact List.mem_append_left _ h
    · obtain ⟨x, hx, rfl⟩ := (S.eq w).mp hw
      rw [← fault_head S.rel] at e
      exact List.mem_append_right _ (List.mem_flatMap.mpr ⟨x, hx, List.mem_of_head? e⟩)
  · intro y hy
    rcases List.mem_append.mp hy with hy | hy
    · rw [← strange_same S.rel] at hy
      exact hm y (.inl hy)
    · obtain ⟨x, hx, hy⟩ := List.mem_flatMap.mp hy
      have hw := (S.eq x.1).mpr ⟨x, hx, rfl⟩
      cases c : (faultGo ls x.1 [] 0 0).head? with
      | none =>
        rw [List.head?_eq_none_iff.mp c] at hy
        cases hy
      | some z =>
        have lz := fault_low ls x.1 [] 0 0 (S.ri _ hw) z c y hy
        rw [fault_head S.rel] at c
        have := hm z (.inr ⟨x.1, hw, c⟩)
        omega
end K15

set_option Elab.async false
set_option linter.all false
set_option maxRecDepth 100000
set_option maxHeartbeats 8000000
/-! A class made in a try; the law -/
namespace L2
open PySem
section
variable {X : Cx} {CX : CXT} {k : Nat} {f C : Addr} {fd : FuncData} {ps : List Str} {sp : Sp} {E : St → XK} {x m : Str} {p pos apos : Pos} {e o : Expr} {es : List Expr} {ta : TE} {t : TA}
def tMakeS (C : Addr) (sp : Sp) (E : St → XK) (t : TA) : TE := fun σ H Q => t σ H fun vs H1 => ∀ x dx, H1 x = none → H1 dx = none → dx ≠ x →
  sp (.ref x :: vs) (upd (upd H1 dx (.own x)) x (.ins C dx [])) (fun v H2 => v = .non ∧ Q (.ref x) H2) (E σ)
theorem run_makeS {pins : List (Addr × Obj)} {σ : St} {H : Hp} {s : Shared} {Q : VK} {us : List Value} {vs : List V} (M : Mk X.K C f) (F : FnOk X.prog X.w X.K X.mg X.base CX k f fd ps sp) (hr : Room (k + 1) X.A) (hb : Binds X.K fd ps [])
    (hx : PassesAt CX X σ (E σ)) (I : Inv X pins σ H s) (r : Vals vs us)
    (h : ∀ x dx, H x = none → H dx = none → dx ≠ x → sp (.ref x :: vs) (upd (upd H dx (.own x)) x (.ins C dx [])) (fun v H2 => v = .non ∧ Q (.ref x) H2) (E σ)) :
    wpAny (model X.prog X.w) X.A (call (.ref C) us) (EP X pins σ Q) X.xe s := by
  have hq := h (s.heap.objs.size + 1) s.heap.objs.size (I.hok.fresh (Nat.le_succ _)) (I.hok.fresh (Nat.le_refl _)) (Nat.ne_of_lt (Nat.lt_succ_self _))
  have I2 := Inv.made (C := C) I
  have r2 : Vals (V.ref (s.heap.objs.size + 1) :: vs) (Value.ref (s.heap.objs.size + 1) :: us) := .cons rfl r
  have hl : (Value.ref (s.heap.objs.size + 1) :: us).length = ps.length := by
    have e := r2.length
    rw [F.len _ _ _ _ hq] at e
    exact e.symm
  have b := hb _ (Value.ref (s.heap.objs.size + 1) :: us) I2.kIn (by rw [List.append_nil]; exact hl)
  rw [List.append_nil] at b
  refine wpAny_call (make_map (f := f) I.kIn M.makes M.init (beq_iff_eq.mp M.fn) (codeAny_mono (F.run _ X.stack _ _ ⟨Value.ref (s.heap.objs.size + 1) :: us, []⟩ (Value.ref (s.heap.objs.size + 1) :: us) _ _ (E σ) (hr.make C us [])
    (I2.env0.make C us []) b r2 hq) fun r s' hq' => ?_))
  cases r with
  | error e => exact hx pins _ _ e s' I2 hq'
  | ok fl =>
    cases fl with
    | ret u =>
      obtain ⟨v, H', I3, rv, ev, q3⟩ := I2.after hq'
      subst ev
      exact ⟨rv, ⟨V.ref (s.heap.objs.size + 1), H', I3, rfl, q3⟩⟩
    | next => exact False.elim hq'
    | brk => exact False.elim hq'
    | cont => exact False.elim hq'
theorem pe_makeS (M : Mk X.K C f) (F : FnOk X.prog X.w X.K X.mg X.base CX k f fd ps sp) (hr : Room (k + 1) X.A) (hg : Gl X x) (hm : X.mg x = some (.ref C)) (hb : Binds X.K fd ps []) (hx : ∀ σ, PassesAt CX X σ (E σ))
    (ha : PA X (e :: es) t) (hdb : (x == ("__debug__" : Str)) = false := by decide) (he : starEach (e :: es) X.env = (false, eval e X.env) :: starEach es X.env := by rfl) (hpl : (backTo pos (starEach es X.env)).any (·.1) = false := by rfl) :
    PE X (.Call (.Name x p) (e :: es) [] pos) (tMakeS C sp E t) := by
  refine ⟨fun pins s σ H Q I h => ?_⟩
  refine wpAny_Call_Name_kw (ld_glob I hg hm ?_ hdb)
  refine PySem.W.callWith_K (h₀ := X.base) I.ok.mod.kin M.kp (thn (ha.run pos pins s σ H _ I h) fun us s1 ⟨vs, H1, I1, r, q⟩ => ⟨I1.kIn, ?_⟩) he hpl
  exact run_makeS M F hr hb (hx σ) I1 r q
end
end L2
namespace K15
open PySem L2
open K15D (TxtB BagAt spBag spDraw)
open Blk (LWay lw)
abbrev nmLaw : List Str := ["_law_script", "_law_bag_here", "_law_turn", "_law_kind", "_law_lines_here", "_law_faults_here", "_law_told", "_law_due", "_law_found", "e", "_law_k"]
theorem scLaw : FnScope nmLaw ["_law_script"] (defScope sLaw) := ⟨rfl, rfl, rfl, by decide +kernel, rfl, by decide +kernel, by decide +kernel⟩
abbrev rJoin (K : PySem.W.Frag) : V → List V → Hp → VK → Prop := fun x xs H Q => ∃ a p, ∃ ys : List Str, x = .str a ∧ xs = [.ref p] ∧ (SqL K H p (ys.map V.str) ∨ SqT K H p (ys.map V.str)) ∧ (ys.map (·.length)).sum + ys.length * a.length ≤ 16777216 ∧ Q (.str (Txt.join a ys)) H
def spLaw (K : PySem.W.Frag) : Sp := fun vs H Q _ => ∃ (a : Addr) (ns : List Int), vs = [.ref a] ∧ SqL K H a (ns.map V.int) ∧ ns.length ≤ 63 ∧ ∀ H', Q (.bl true) H'
theorem len_join1 (y : Str) : ∀ ls : List Str, (Str.join y ls).length ≤ (ls.map (·.length)).sum + ls.length * y.length
  | [] => Nat.zero_le _
  | [x] => by
    show x.length ≤ (x.length + 0) + 1 * y.length
    omega
  | x :: z :: r => by
    have ih := len_join1 y (z :: r)
    have e : (Str.join y (x :: z :: r)).length = x.length + y.length + (Str.join y (z :: r)).length := by
      have h : TL.tl (Str.join y (x :: z :: r)) = TL.tl x ++ TL.tl y ++ TL.tl (Str.join y (z :: r)) := by
        show TL.tl (x ++ y ++ Str.join y (z :: r)) = _
        rw [TL.tl_append, TL.tl_append]
      have h2 := congrArg List.length h
      rw [List.length_append, List.length_append] at h2
      exact h2
    rw [e, List.map_cons, List.sum_cons, List.length_cons, Nat.succ_mul]
    omega
theorem sum_le {ls : List Str} : (∀ x ∈ ls, x.length ≤ 100) → (ls.map (·.length)).sum ≤ 100 * ls.length := by
  induction ls with
  | nil => intro _; exact Nat.zero_le _
  | cons x r ih =>
    intro h
    have h1 := ih fun y hy => h y (List.mem_cons_of_mem x hy)
    have h2 := h x (List.mem_cons_self ..)
    rw [List.map_cons, List.sum_cons, List.length_cons]
    omega
theorem text_len {ls : List Str} (h : ∀ x ∈ ls, x.length ≤ 100) (hl : ls.length ≤ 48) : (ls.map (·.length)).sum + ls.length * ("\n" : Str).length ≤ 16777216 ∧ (Txt.join "\n" ls).length + 2 ≤ sizeLine := by
  have e : ("\n" : Str).length = 1 := by decide +kernel
  have h1 := sum_le h
  have h2 := len_join1 "\n" ls
  rw [e] at h2 ⊢
  rw [TL.join_eq]
  refine ⟨by omega, Nat.le_trans (show _ ≤ 4850 by omega) (by decide)⟩
theorem lines_join {ls : List Str} (h : ∀ x ∈ ls, 10 ∉ TL.tl x) (hp : ∀ x ∈ ls, 0 < x.length) : linesM (Txt.join "\n" ls) = ls := by
  unfold linesM
  cases ls with
  | nil =>
    rw [if_pos]
    decide +kernel
  | cons x r =>
    have ne : ¬ Txt.join "\n" (x :: r) = Str.empty := fun z => by
      have h1 := TL.split_join (y := "\n") (s := 10) (S := []) (by decide +kernel) (by decide +kernel) (parts := x :: r) (by simp) h
      rw [z] at h1
      have h2 : Txt.split Str.empty "\n" = [Str.empty] := by decide +kernel
      rw [h2] at h1
      have h3 := hp x (List.mem_cons_self ..)
      rw [← (List.cons.inj h1).1] at h3
      exact absurd h3 (by decide)
    rw [if_neg ne]
    exact TL.split_join (y := "\n") (s := 10) (S := []) (by decide +kernel) (by decide +kernel) (by simp) h
theorem allF_len {ls : List Str} {k : Nat} : ∀ {xs : List Blk.LWay}, (∀ x ∈ xs, x.1.length ≤ k) → (allF ls xs).length ≤ 2 * k * xs.length
  | [], _ => Nat.zero_le _
  | x :: xs, h => by
    have e : allF ls (x :: xs) = faultGo ls x.1 [] 0 0 ++ allF ls xs := List.flatMap_cons
    rw [e, List.length_append, List.length_cons, Nat.mul_succ]
    have h1 := fault_len ls x.1 [] 0 0
    have h2 := h x (List.mem_cons_self ..)
    have h3 := allF_len (ls := ls) fun y hy => h y (List.mem_cons_of_mem x hy)
    omega
abbrev lSuite : List Stmt := forBody ((defBody sLaw).getD 1 passS)
section
variable {P : Program} {w : World} {K : PySem.W.Frag} {mg : Str → Option Value} {base : Heap}
theorem ok_law {f fB fD fL fW fF fS fH fH2 C C2 CR : Addr} {fd fdB fdD fdL fdW fdF fdS fdH fdH2 : FuncData} (F : Fun K "law" "law" sLaw f fd) (T : TxtB mg) (hmin : mg "min" = none)
    (GB : FnOk P w K mg base CX0 1 fB fdB ["_law_script"] (spBag K)) (kB : PySem.W.keepIn K (.ref fB) = true) (bB : Binds K fdB ["_law_script"] []) (gB : mg "_law_bag" = some (.ref fB))
    (GD : FnOk P w K mg base CX0 1 fD fdD ["_law_bag_here", "_law_limit"] spDraw) (kD : PySem.W.keepIn K (.ref fD) = true) (bD : Binds K fdD ["_law_bag_here", "_law_limit"] []) (gD : mg "_law_draw" = some (.ref fD))
    (GL : FnOk P w K mg base CX0 4 fL fdL ["_law_bag_here", "_law_deep", "_law_left"] (spLL 2)) (kL : PySem.W.keepIn K (.ref fL) = true) (bL : Binds K fdL ["_law_bag_here", "_law_deep", "_law_left"] []) (gL : mg "_law_lines" = some (.ref fL))
    (GW : FnOk P w K mg base CX0 50 fW fdW ["_law_lines_here", "_law_first", "_law_last"] (spLW K 48)) (kW : PySem.W.keepIn K (.ref fW) = true) (bW : Binds K fdW ["_law_lines_here", "_law_first", "_law_last"] []) (gW : mg "_law_ways" = some (.ref fW))
    (GF : FnOk P w K mg base CX0 2 fF fdF ["_law_lines_here", "_law_told"] (spLF K)) (kF : PySem.W.keepIn K (.ref fF) = true) (bF : Binds K fdF ["_law_lines_here", "_law_told"] []) (gF : mg "_law_faults" = some (.ref fF))
    (GS : FnOk P w K mg base CX0 1 fS fdS ["_law_kind", "_law_text"] spLStrange) (kS : PySem.W.keepIn K (.ref fS) = true) (bS : Binds K fdS ["_law_kind", "_law_text"] []) (gS : mg "_law_strange" = some (.ref fS))
    (M : Mk K C fH) (GH : FnOk P w K mg base (L2.CX P w) 8 fH fdH ["self", "kind", "rules", "text"] (spBI K C CR)) (bH : Binds K fdH ["self", "kind", "rules", "text"] []) (gH : mg "BlockCode" = some (.ref C))
    (M2 : Mk K C2 fH2) (GH2 : FnOk P w K mg base CX0 3 fH2 fdH2 ["self", "unit", "least"] (spBR K C2)) (bH2 : Binds K fdH2 ["self", "unit", "least"] []) (gH2 : mg "BlockRules" = some (.ref C2))
    (gR : mg "Refused" = some (.ref CR)) (xm : PySem.W.exmOne K (.ref CR) (.ref CR) = some true) (xf : XfC K CR) (nl : PySem.W.findIn K (.ref CR) "line" = some none) :
    FnOk P w K mg base CX0 51 f fd ["_law_script"] (spLaw K) := by
  refine F.ok scLaw (fun vs H Q E h => ?_) (fun cdv A outer s H vs Q E hr h => ?_)
  · obtain ⟨a, ns, rfl, _⟩ := h
    rfl
  · obtain ⟨a, ns, rfl, hS, hlen, k⟩ := h
    have hr1 : Room 1 _ := hr.mono (by decide)
    have hr2 : Room 2 _ := hr.mono (by decide)
    have hr4 : Room 4 _ := hr.mono (by decide)
    have hr9 : Room 9 _ := hr.mono (by decide)
    have hu := hu_of hr
    obtain ⟨tI, pI, rI⟩ : ∃ tI, PSs (cxOf CX0 P w K mg base nmLaw "law" (defScope sLaw) f cdv A outer s H E).nox (lSuite.drop 7) tI ∧
        ∀ (D : Ends) (G : Hp) (v1 v2 v3 v4 v5 v6 : Option V) (m due : Nat), m = due →
          D.nx [some (.ref a), v1, v2, v3, v4, v5, v6, some (.int (due : Nat)), some (.int (m : Nat)), none, none] G →
          tI D [some (.ref a), v1, v2, v3, v4, v5, v6, some (.int (due : Nat)), some (.int (m : Nat)), none, none] G := by
      refine ⟨_, pss_one (ps_if (pt_cmpR op_ne (pv 8) (pv 7) (nomark _)) (pss_one (ps_ret pe_bl)) pss_nil), ?_⟩
      intro D G v1 v2 v3 v4 v5 v6 m due hm hnx
      subst hm
      refine ⟨_, rfl, _, rfl, rfl, _, rfl, ?_⟩
      exact ifF3 (show (!decide (V.int (m : Nat) = V.int (m : Nat))) = false by rw [decide_eq_true rfl]; rfl) hnx
    obtain ⟨tT, pT, rT⟩ : ∃ tT, PSs (cxOf CX0 P w K mg base nmLaw "law" (defScope sLaw) f cdv A outer s H E).nox (lSuite.drop 6) tT ∧
        ∀ (D : Ends) (G : Hp) (v1 v2 v5 v6 : Option V) (kd : Str) (A : Addr) (tr : Blk) (due : Nat), kd ∈ kindsL → Good tr → tr.size ≤ 48 → tr.ifs ≤ 6 → G A = some (.lst (tr.lines.map V.str)) →
          ((∀ m, ¬ badM tr.lines (tr.steps fK gK) kd (Blk.rAll fK tr 0) m) → due = 0) → (∀ m, badM tr.lines (tr.steps fK gK) kd (Blk.rAll fK tr 0) m → (∀ y, badM tr.lines (tr.steps fK gK) kd (Blk.rAll fK tr 0) y → m ≤ y) → due = m) →
          (∀ (G2 : Hp) (k7 k8 : Option V), Same G G2 → D.nx [some (.ref a), v1, v2, some (.str kd), some (.ref A), v5, v6, k7, k8, none, none] G2) →
          tT D [some (.ref a), v1, v2, some (.str kd), some (.ref A), v5, v6, some (.int (due : Nat)), some (.int 0), none, none] G := by
      refine ⟨_, pss_cons (ps_try_as (i := 9) rfl rfl scLaw.nd rfl rfl ⟨rfl, by decide, Or.inl gR⟩ takes0
          (fun W pn xe tk _ => pss_one (ps_expr (by exact (pe_makeS (t := tCons (tVar 3) (tCons (tMake C2 (spBR K C2) [] E0 (tCons (tC (.int 1)) (tCons (tC (.int 4)) tNil))) (tCons (tM1 (rJoin K) (tC (.str "\n")) (tVar 4)) tNil))) M GH hr9 rfl gH bH (fun σ => passAt tk σ) (by exact (pa_cons (pv 3) (pa_cons (by exact (pe_make M2 GH2 hr4 (by rfl) gH2 bH2 .nil pass0 (pa_cons pe_int (pa_cons pe_int pa_nil)))) (pa_cons (by exact (pe_join pe_str (pv 4))) pa_nil))))))))
          (fun e oe cls d pn hz hf => pss_one (ps_set (i := 8) scLaw.nd rfl (Or.inl rfl) (by exact (pe_xf xf nl hz hf (pv 9)))))) pI, ?_⟩
      intro D G v1 v2 v5 v6 kd A tr due hk hg hs48 hi6 hA hd0 hd1 hnx
      have hll : tr.lines.length = tr.size := Blk.size_lines _
      have hln := hg.lines
      have hR := Blk.runEq fK gK tr hg.plain
      have hjoin := text_len (fun x hx => (hln x hx).1.len) (show tr.lines.length ≤ 48 by omega)
      refine ⟨_, rfl, fun x0 dx0 n1 n2 n3 => ?_⟩
      have sP0 : Same G (upd (upd G dx0 (.own x0)) x0 (.ins C2 dx0 [])) := (Same.new (o := .own x0) n2).trans (Same.new (o := .ins C2 dx0 []) (by rw [upd_ne n3.symm]; exact n1))
      refine ⟨x0, dx0, rfl, upd_same, fun G5 b5 => ⟨rfl, ?_⟩⟩
      have s5 := But.fresh sP0 b5 n1
      refine ⟨⟨_, rfl⟩, _, rfl, ("\n" : Str), A, tr.lines, rfl, rfl, .inl (SqL.of (s5 _ _ hA)), hjoin.1, fun p dx np ndx ne => ?_⟩
      have sP : Same G5 (upd (upd G5 dx (.own p)) p (.ins C dx [])) := (Same.new (o := .own p) ndx).trans (Same.new (o := .ins C dx []) (by rw [upd_ne ne.symm]; exact np))
      refine ⟨p, dx, .ref x0, Txt.join "\n" tr.lines, kd, tr.lines, tr.steps fK gK, tr.setT 0 (List.replicate tr.size V.non), Blk.rAll fK tr, rfl, upd_same, hk, hjoin.2, lines_join (fun x hx => (hln x hx).1.nl) (fun x hx => (hln x hx).1.pos), by omega, fun x hx => (hln x hx).1.row,
          Blk.read_all kd fK gK tr (hg.read kd), by rw [Blk.countIf _ _ _ hg.plain]; omega, Blk.tg_all _ _ _ hg.plain, hR, ?_, fun hno G6 b6 => ⟨rfl, ?_⟩, fun m hex hmin d G6 b6 hd gd => ?_⟩
      · rw [Blk.rAll_zero]
        have h1 := (Blk.ways_len fK tr 0 [[]] (Nat.le_refl _)).2
        have h2 : 2 ^ tr.ifs ≤ 64 := Nat.le_trans (Nat.pow_le_pow_right (by decide) hi6) (by decide)
        have h3 : 2 ^ tr.ifs * ([[]] : List (List Nat)).length = 2 ^ tr.ifs := Nat.mul_one _
        omega
      · have s6 := But.fresh sP b6 np
        have e0 := hd0 hno
        refine rI D _ _ _ _ _ _ _ 0 due e0.symm ?_
        exact hnx _ _ _ (s5.trans s6)
      · have s6 := But.fresh sP b6 np
        have e0 := hd1 m hex hmin
        refine ⟨true, xm, fun _ e he => ?_, fun z => Bool.noConfusion z⟩
        refine ⟨_, rfl, rfl, rfl, d, _, _, rfl, gd, (show List.lookup ("line" : Str) [(("line" : Str), V.int (m : Nat))] = some (V.int (m : Nat)) by kernel_rfl), ?_⟩
        refine rI D _ _ _ _ _ _ _ m due e0.symm ?_
        exact hnx _ _ _ (s5.trans s6)
    obtain ⟨tR, pR, rR⟩ : ∃ tR, PSs (cxOf CX0 P w K mg base nmLaw "law" (defScope sLaw) f cdv A outer s H E).nox (lSuite.drop 3) tR ∧
        ∀ (D : Ends) (G : Hp) (v1 v2 v5 v6 v7 v8 : Option V) (kd : Str) (A : Addr) (tr : Blk), kd ∈ kindsL → Good tr → tr.size ≤ 48 → tr.ifs ≤ 6 → G A = some (.lst (tr.lines.map V.str)) →
          (∀ (G2 : Hp) (k5 k6 k7 k8 : Option V), Same G G2 → D.nx [some (.ref a), v1, v2, some (.str kd), some (.ref A), k5, k6, k7, k8, none, none] G2) →
          tR D [some (.ref a), v1, v2, some (.str kd), some (.ref A), v5, v6, v7, v8, none, none] G := by
      refine ⟨_, pss_cons (ps_setLc (i := 5) (own := [("_law_k", 10)]) (g := gName 10) (tt := tB (tCall spLStrange [] E0 (tCons (tVar 3) (tCons (tOp (rIxL K) (tVar 4) (tVar 10)) tNil)))) (te := tOp (rI0 fun i j => .int (i + j)) (tVar 10) (tC (.int 1))) rfl scLaw.nd rfl rfl (sw_true rfl rfl rfl (by decide +kernel)) (by exact pi_range1 (by rfl) T.range (pa_cons (pe_callB call_len_seq (by rfl) T.len PySem.boot_len (pa_cons (pv 4) pa_nil)) pa_nil)) (blkOk_by (own := [("_law_k", 10)]) (N := nmLaw) (sc := defScope sLaw) (by decide +kernel)) (fun _ _ _ _ _ => pg_name (i := 10) scLaw.nd rfl (Or.inl rfl))
          (fun _ _ _ _ _ => pts_one (pt_val (by exact (pe_call GS hr1 rfl gS kS bS .nil pass0 (by exact (pa_cons (pv 3) (pa_cons (pe_ix (show IxR _ (rIxL K) from ix_list) (pv 4) (pv 10) (fun _ _ => rfl)) pa_nil))))))) (fun _ _ _ _ _ => by exact (pe_op op_add (pv 10) pe_int)))
        (pss_cons (ps_for PassesOwn.never rfl (pi_list (pe_call GW hr rfl gW kW bW .nil pass0 (pa_cons (pv 4) (pa_cons pe_int (pa_cons (pe_op op_add (pe_callB call_len_seq (by rfl) T.len PySem.boot_len (pa_cons (pv 4) pa_nil)) pe_int) pa_nil))))) (pg_name (i := 6) scLaw.nd rfl (Or.inl rfl))
          (pss_one (ps_set (i := 5) scLaw.nd rfl (Or.inl rfl) (pe_op op_cat (pv 5) (pe_call GF hr2 rfl gF kF bF .nil pass0 (pa_cons (pv 4) (pa_cons (pv 6) pa_nil)))))))
        (pss_cons (ps_par (i := 7) (j := 8) rfl scLaw.nd rfl rfl (by decide) rfl rfl (pa_cons (pe_ifExp (pt_cmpR (op_neD hr.units) (pv 5) (pe_lst pa_nil) (nomark _)) (pe_callB (cr_min rfl) (by rfl) hmin (by kernel_rfl) (pa_cons (pv 5) pa_nil)) pe_int) (pa_cons pe_int pa_nil)) (by rfl)) pT)), ?_⟩
      intro D G v1 v2 v5 v6 v7 v8 kd A tr hk hg hs48 hi6 hA hnx
      have hll : tr.lines.length = tr.size := Blk.size_lines _
      have hln := hg.lines
      have hR := Blk.runEq fK gK tr hg.plain
      have hlenS : (tr.steps fK gK).length = tr.size := Blk.size_steps _ _ _
      have hways := same_ways hg.fins
      have hin : ∀ x ∈ lw tr 0, x.1.length ≤ 48 ∧ ∀ n ∈ x.1, 1 ≤ n ∧ n ≤ tr.size := fun x hx => by
        obtain ⟨w1, w2⟩ := hR.within _ 0 (Nat.le_refl _) (Nat.zero_le _) x.1 ((hways x.1).mpr ⟨x, hx, rfl⟩)
        rw [hlenS] at w1 w2
        exact ⟨by omega, fun n hn => by have := w2 n hn; omega⟩
      have hlw : (lw tr 0).length ≤ 64 := Nat.le_trans (Blk.lw_len tr 0).1 (Nat.le_trans (Nat.pow_le_pow_right (by decide) hi6) (by decide))
      have h62 : (2 : Int) ^ 62 = 4611686018427387904 := by decide
      have hml : (tr.lines.map V.str).length = tr.size := by rw [List.length_map, hll]
      refine ⟨_, rfl, A, _, rfl, .inl (SqL.of hA), _, rfl, by rw [hml]; omega, by rw [hml]; omega, fun D0 nD => ?_⟩
      rw [show ((((tr.lines.map V.str).length : Nat) : Int)).toNat = tr.size by rw [hml]; exact Int.toNat_natCast _]
      refine lc_range (fun i G2 => Same G G2 ∧ G2 D0 = some (.lst (intsV (strangeL tr.lines kd i)))) ⟨Same.new nD, upd_same⟩ ?_ ?_
      · rintro i G2 hi ⟨s2, gD⟩
        rw [show ((0 : Int) + (i : Nat)) = ((i : Nat) : Int) by omega]
        have hri : tr.lines[i]? = some (tr.lines.getD i Str.empty) := by
          rw [List.getD_eq_getElem?_getD, List.getElem?_eq_getElem (by omega)]
          rfl
        obtain ⟨ln, hlne⟩ : ∃ ln, ln = tr.lines.getD i Str.empty := ⟨_, rfl⟩
        rw [← hlne] at hri
        refine ⟨rfl, ?_⟩
        refine ⟨_, rfl, _, rfl, _, rfl, A, _, _, _, rfl, rfl, SqL.of (s2 _ _ hA), atI_nat (j := i) (by rw [List.getElem?_map, hri]; rfl), kd, ln, rfl, (hln _ (List.mem_of_getElem? hri)).1.row, fun G3 s3 => ⟨_, rfl, ?_⟩⟩
        have gD3 := s3 _ _ gD
        rw [strangeL_more, ← hlne]
        by_cases c : strangeM kd ln = true
        · rw [if_pos c]
          refine ifT3 c ?_
          refine ⟨_, rfl, _, _, rfl, rfl, _, gD3, small1000 (by unfold intsV; rw [List.length_map]; have := strangeL_len tr.lines kd i; omega), Same.write (s2.trans s3) nD, ?_⟩
          rw [upd_same]
          unfold intsV
          rw [List.map_append]
          rfl
        · rw [if_neg c, List.append_nil]
          refine ifF3 (Bool.eq_false_iff.mpr c) ?_
          exact ⟨s2.trans s3, gD3⟩
      rintro G1 ⟨s1, gD1⟩
      rw [show tr.size = tr.lines.length from hll.symm] at gD1
      refine ⟨_, rfl, _, rfl, A, _, rfl, .inl (SqL.of (s1 _ _ hA)), _, _, rfl, rfl, A, tr.lines, [], [], tr, ?_, by simp, SqL.of (s1 _ _ hA), hg.heads, hg.fronts, hs48, by omega, hi6, fun s hs => (hln s hs).1.wline, fun W0 as xs G3 s3 gW0 hE hmem hlen hopen => ?_⟩
      · show [V.ref A, V.int 1, V.int (((tr.lines.map V.str).length : Int) + 1)] = [V.ref A, V.int 1, V.int (((0 + 1 + tr.size : Nat)) : Int)]
        rw [hml, show (((0 + 1 + tr.size : Nat)) : Int) = (tr.size : Int) + 1 by omega]
      have hxl : xs.length ≤ 64 := by
        rw [hlen]
        exact hlw
      have hin' : ∀ x ∈ xs, x.1.length ≤ 48 ∧ ∀ n ∈ x.1, 1 ≤ n ∧ n ≤ tr.size := fun x hx => hin x ((hmem x).mp hx)
      have hal : as.length = xs.length := Paired.length hE
      have s13 := s1.trans s3
      have hst := strangeL_len tr.lines kd tr.lines.length
      refine ⟨W0, rfl, ⟨_, SqL.of gW0⟩, for_list (K := K) (a := W0) (xs := as.map V.ref) (fun i σ G4 => ∃ (F1 : Addr) (k6 : Option V), σ = [some (.ref a), v1, v2, some (.str kd), some (.ref A), some (.ref F1), k6, v7, v8, none, none] ∧ Same G3 G4 ∧ G4 F1 = some (.lst (intsV (strangeL tr.lines kd tr.lines.length ++ allF tr.lines (xs.take i)))))
        ⟨D0, v6, rfl, Same.refl _, by rw [List.take_zero]; show _ = some (HO.lst (intsV (_ ++ []))); rw [List.append_nil]; exact s3 _ _ gD1⟩ (fun i σ G4 _ ⟨_, _, _, e, _⟩ => SqL.of (e _ _ gW0)) ?_ ?_⟩
      · rintro i y σ G4 hi ⟨F1, k6, rfl, s4, gF1⟩
        obtain ⟨aw, haw, rfl⟩ : ∃ aw, as[i]? = some aw ∧ y = V.ref aw := by
          rw [List.getElem?_map] at hi
          cases e : as[i]? with
          | none => rw [e] at hi; cases hi
          | some q => rw [e] at hi; exact ⟨q, rfl, (Option.some.inj hi).symm⟩
        obtain ⟨x, hx, gaw⟩ := Paired.get hE haw
        obtain ⟨x1, x2⟩ := hin' x (List.mem_of_getElem? hx)
        have hil := (List.getElem?_eq_some_iff.mp hx).1
        have hle : ∀ ys : List LWay, (∀ y ∈ ys, y ∈ xs) → (allF tr.lines ys).length ≤ 2 * 48 * ys.length := fun ys hys => allF_len fun y hy => (hin' y (hys y hy)).1
        have l1 := hle (xs.take i) fun y hy => List.mem_of_mem_take hy
        have l2 := fault_len tr.lines x.1 [] 0 0
        have l3 : (xs.take i).length ≤ 64 := by rw [List.length_take]; omega
        have cap : ∀ n : Nat, n ≤ 9000 → n ≤ sizeLine := fun n hn => Nat.le_trans hn (by decide)
        refine ⟨_, rfl, _, rfl, _, rfl, A, aw, tr.lines, x, rfl, SqL.of (s4 _ _ (s13 _ _ hA)), s4 _ _ gaw, (fun n hn => by have := x2 n hn; omega), by omega, by omega, (fun s hs => (hln s hs).2), fun R5 G5 s5 gR5 => ?_⟩
        refine ⟨F1, R5, _, _, rfl, rfl, s5 _ _ gF1, gR5, cap _ (by unfold intsV; rw [List.length_map, List.length_map, List.length_append]; omega), fun p np => ?_⟩
        refine ⟨p, _, rfl, s4.trans (s5.trans (Same.new np)), ?_⟩
        have e9 : strangeL tr.lines kd tr.lines.length ++ allF tr.lines (xs.take (i + 1)) = (strangeL tr.lines kd tr.lines.length ++ allF tr.lines (xs.take i)) ++ faultGo tr.lines x.1 [] 0 0 := by
          rw [take_more hx, List.append_assoc]
          congr 1
          unfold allF
          rw [List.flatMap_append]
          congr 1
          show faultGo tr.lines x.1 [] 0 0 ++ [] = _
          rw [List.append_nil]
        have e10 : ∀ X Y : List Nat, intsV (X ++ Y) = intsV X ++ intsV Y := fun X Y => List.map_append
        rw [e9, e10 (strangeL tr.lines kd tr.lines.length ++ allF tr.lines (xs.take i))]
        exact upd_same
      · rintro σ G4 ⟨F1, k6, rfl, s4, gF1⟩
        rw [List.length_map, hal, List.take_length] at gF1
        obtain ⟨Fs, hFs⟩ : ∃ Fs, Fs = strangeL tr.lines kd tr.lines.length ++ allF tr.lines xs := ⟨_, rfl⟩
        rw [← hFs] at gF1
        have hint : intsV Fs = intL (Fs.map fun n => ((n : Nat) : Int)) := by
          unfold intsV intL
          rw [List.map_map]
          rfl
        rw [hint] at gF1
        have hST : SaysT tr.lines (tr.steps fK gK) (Blk.rAll fK tr 0) xs := ⟨hg.rels, hR.rise _ 0 (Nat.le_refl _) (Nat.zero_le _), fun r => (hways r).trans ⟨fun ⟨x, hx, e⟩ => ⟨x, (hmem x).mpr hx, e⟩, fun ⟨x, hx, e⟩ => ⟨x, (hmem x).mp hx, e⟩⟩⟩
        refine ⟨_, rfl, (by show 0 ≤ sizeLine; decide), fun e0 ne0 => ?_⟩
        have s0 := Same.new (o := .lst []) ne0
        refine ⟨.list ((Fs.map fun n => ((n : Nat) : Int)).map PyData.int), .list [], .lst (SqL.of (s0 _ _ gF1)) (dpInts _), .lst (SqL.of upd_same) .nil, shapedInts _, by decide +kernel, ?_⟩
        refine ⟨_, rfl, ?_⟩
        have s40 : Same G (upd G4 e0 (.lst [])) := s13.trans (s4.trans s0)
        cases hc : Fs with
        | nil =>
          refine ifF3 (show (!PyData.eqv (.list []) (.list [])) = false by simp [PyData.eqv, PyData.eqvAll]) ?_
          refine ⟨_, _, rfl, ?_⟩
          refine rT D _ v1 v2 _ _ kd A tr 0 hk hg hs48 hi6 (s40 _ _ hA) (fun _ => rfl) (fun m hm hmn => ?_) (fun G9 k7 k8 s9 => hnx G9 _ _ _ _ (s40.trans s9))
          have := (hST.some hm hmn).1
          rw [← hFs, hc] at this
          cases this
        | cons n0 rest =>
          refine ifT3 (show (!PyData.eqv (.list (((n0 :: rest).map fun n => ((n : Nat) : Int)).map PyData.int)) (.list [])) = true by simp [PyData.eqv, PyData.eqvAll]) ?_
          rw [hc] at gF1
          refine ⟨_, rfl, F1, (n0 :: rest).map fun n => ((n : Nat) : Int), rfl, SqL.of (s0 _ _ gF1), by rw [List.length_map]; exact Nat.succ_pos _, fun q hq hqm => ?_⟩
          obtain ⟨q', hq', rfl⟩ := List.mem_map.mp hq
          refine ⟨_, _, rfl, ?_⟩
          refine rT D _ v1 v2 _ _ kd A tr q' hk hg hs48 hi6 (s40 _ _ hA) (fun hno => ?_) (fun m hm hmn => ?_) (fun G9 k7 k8 s9 => hnx G9 _ _ _ _ (s40.trans s9))
          · have := hST.none hno
            rw [← hFs, hc] at this
            cases this
          · obtain ⟨h1, h2⟩ := hST.some hm hmn
            rw [← hFs, hc] at h1 h2
            have a1 := h2 q' hq'
            have a2 := hqm _ (List.mem_map.mpr ⟨m, h1, rfl⟩)
            omega
    refine ⟨_, pss_cons (ps_set (i := 1) scLaw.nd rfl (Or.inl rfl) (pe_call GB hr1 rfl gB kB bB .nil pass0 (pa_cons (pv 0) pa_nil)))
      (pss_cons (ps_for PassesOwn.never rfl (pi_range1 (by rfl) T.range (pa_cons pe_int pa_nil)) (pg_name (i := 2) scLaw.nd rfl (Or.inl rfl))
        (pss_cons (ps_set (i := 3) scLaw.nd rfl (Or.inr rfl) (pe_ix ix_list (pe_lst (pa_cons pe_str (pa_cons pe_str (pa_cons pe_str (pa_cons pe_str pa_nil))))) (pe_call GD hr1 rfl gD kD bD .nil pass0 (pa_cons (pv 1) (pa_cons pe_int pa_nil))) (fun _ _ => rfl)))
        (pss_cons (ps_set (i := 4) scLaw.nd rfl (Or.inr rfl) (pe_call GL hr4 rfl gL kL bL .nil pass0 (pa_cons (pv 1) (pa_cons pe_int (pa_cons (pe_lst (pa_cons pe_int (pa_cons pe_int (pa_cons pe_int (pa_cons pe_int (pa_cons pe_int (pa_cons pe_int pa_nil))))))) pa_nil)))))
        (pss_cons (ps_set (i := 4) scLaw.nd rfl (Or.inr rfl) (pe_ifExp (pt_cmpR op_le (pe_callB call_len_seq (by rfl) T.len PySem.boot_len (pa_cons (pv 4) pa_nil)) pe_int (nomark _)) (pv 4) (pe_lst (pa_cons pe_str pa_nil)))) pR))))
      (pss_one (ps_ret pe_bl))), ?_⟩
    refine ⟨_, rfl, a, ns, rfl, hS, hlen, fun b c H1 s1 B1 => ?_⟩
    refine ⟨6, rfl, by decide, by decide, for_range (lo := 0) (n := 6) (fun i σ G => ∃ (k2 k3 k4 k5 k6 k7 k8 : Option V), σ = [some (.ref a), some (.ref b), k2, k3, k4, k5, k6, k7, k8, none, none] ∧ BagAt c G b (2000 * i))
      ⟨none, none, none, none, none, none, none, rfl, B1⟩ ?_ ?_⟩
    · rintro i σ G hi ⟨k2, k3, k4, k5, k6, k7, k8, rfl, B⟩
      obtain ⟨kv1, eb1⟩ := bag_there B
      refine ⟨(by show 4 ≤ sizeLine; decide), fun l3 n3 => ?_⟩
      have t3 := Same.new (o := .lst (kindsL.map V.str)) n3
      have l3b : l3 ≠ b := (ne_of_none eb1 n3).symm
      refine ⟨_, rfl, b, c, 4, 2000 * i, rfl, B.keep t3, by omega, by decide, by decide, fun r G4 r0 r1 B4 e4 => ?_⟩
      obtain ⟨kd, hk, hat⟩ := ll_at (xs := kindsL) r0 r1
      refine ⟨l3, _, r, _, rfl, rfl, SqL.of (e4 _ _ upd_same l3b), hat, ?_⟩
      refine ⟨_, rfl, (by show 6 ≤ sizeLine; decide), fun L nL => ?_⟩
      have cL : c ≠ L := by
        obtain ⟨_, _, _, _, _, BB⟩ := B4
        exact ne_of_none BB.cs nL
      refine ⟨b, L, c, 0, 2000 * i + 1, [1, 2, 3, 4, 5, 6], rfl, rfl, B4.keep (Same.new nL), cL, by omega, upd_same, by decide, fun R G6 t m' ls' hRn gR B6 hm' fr gL' cnt siz good => ?_⟩
      have hif : t.ifs ≤ 6 := by
        have : ls'.length + t.ifs = 6 := cnt
        omega
      have hsz : t.size ≤ 266 := by
        have : t.size ≤ 4 * 14 + 35 * t.ifs := siz
        omega
      have hl2 : (t.lines.map V.str).length = t.size := by rw [List.length_map, Blk.size_lines]
      have nxt : ∀ (A : Addr) (G8 G9 : Hp) (k5 k6 k7 k8 : Option V), Same G6 G8 → Same G8 G9 → ∃ (k2 k3 k4 k5' k6' k7' k8' : Option V), ([some (.ref a), some (.ref b), some (.int (0 + (i : Int))), some (.str kd), some (.ref A), k5, k6, k7, k8, none, none] : L2.St) = [some (.ref a), some (.ref b), k2, k3, k4, k5', k6', k7', k8', none, none] ∧ BagAt c G9 b (2000 * (i + 1)) := fun A G8 G9 k5 k6 k7 k8 a1 a2 => by
        refine ⟨_, _, _, _, _, _, _, rfl, ?_⟩
        obtain ⟨q1, q2, q3, q4, q5, BB⟩ := B6.keep (a1.trans a2)
        exact ⟨q1, q2, q3, q4, q5, BB.at_, BB.cs, BB.len, BB.p0, BB.q0, BB.r0, by have := BB.rm; omega, BB.z0, BB.z1⟩
      refine ⟨_, rfl, R, _, rfl, .inl (SqL.of gR), _, _, rfl, rfl, _, rfl, ?_⟩
      by_cases h48 : t.size ≤ 48
      · refine ifT3 (decide_eq_true (by rw [hl2]; omega)) ?_
        refine ⟨_, rfl, ?_⟩
        exact rR _ _ _ _ _ _ _ _ kd R t hk good h48 hif gR (fun G9 e5 e6 e7 e8 s9 => nxt R _ G9 e5 e6 e7 e8 (Same.refl _) s9)
      · refine ifF3 (decide_eq_false (by rw [hl2]; omega)) ?_
        refine ⟨(by show 1 ≤ sizeLine; decide), fun q nq => ?_⟩
        exact rR _ _ _ _ _ _ _ _ kd q (.leaf "quit" .nil) hk quit_good (by decide) (by decide) upd_same (fun G9 e5 e6 e7 e8 s9 => nxt q _ G9 e5 e6 e7 e8 (Same.new nq) s9)
    · rintro σ G ⟨k2, k3, k4, k5, k6, k7, k8, rfl, B⟩
      exact k G
end
end K15

set_option Elab.async false
set_option linter.all false
set_option maxRecDepth 100000
namespace K15
open PySem L2
theorem outl_binds {K : PySem.W.Frag} {f : Addr} {fd : FuncData} (F : FunD K "read_outline" "read_outline" (defArgs sOutl) (defBody sOutl) (defScope sOutl) [.non] [] f fd) : ∃ ds, Vals [V.non] ds ∧ Binds K fd ["text", "kind", "step_in", "part_in", "most_lines", "most_ifs", "loop_in"] ds :=
  F.binds1 6 0 (by intro z; cases z) rfl (fun T kV doc pm an cdv ct us its hu hi => match us, its, hu, hi with | [_, _, _, _, _, _], [_], _, _ => ⟨_, rfl, rfl⟩)
theorem outl_fund {K : PySem.W.Frag} {f dT : Addr} {oc : Value} {od an : Option Addr} {osl : Array (Option Value)} {kV doc pm cdv ct : Value} {oT : Obj} {n : Nat} (l : K.lookup f = some ⟨oc, od, .func (PySem.W.fnOf "read_outline" "read_outline" (defArgs sOutl) (defBody sOutl) (defScope sOutl) (.ref dT) kV doc pm an cdv ct), osl⟩)
    (lT : K.lookup dT = some oT) (hT : oT.data = .seq #[.none] n) (c : PySem.W.codeIn K cdv "read_outline" = true) (k : PySem.W.keepIn K (.ref f) = true) :
    FunD K "read_outline" "read_outline" (defArgs sOutl) (defBody sOutl) (defScope sOutl) [.non] [] f (PySem.W.fnOf "read_outline" "read_outline" (defArgs sOutl) (defBody sOutl) (defScope sOutl) (.ref dT) kV doc pm an cdv ct) :=
  ⟨⟨oc, od, .ref dT, kV, doc, pm, an, cdv, ct, osl, rfl, l, c, .inr ⟨(by intro z; cases z), dT, oT, [.none], n, rfl, lT, hT, .cons rfl .nil⟩, .inl rfl⟩, k⟩
end K15

set_option Elab.async false
set_option linter.all false
set_option maxRecDepth 100000
set_option maxHeartbeats 8000000
/-! The facts of the text, the end -/
namespace K15
open PySem L2
open K15D (TxtB ok_bag ok_draw)
theorem eb_ref : ErrA.ErrBody PP sRefI "line" [] where
  ex := ⟨_, _, _, _, _, _, _, _, _, _, _, _, _, ⟨fun _ _ _ _ _ => ⟨_, rfl⟩, rfl, rfl, by decide +kernel, rfl, rfl, rfl, by decide +kernel, by decide +kernel, ⟨_, rfl, rfl⟩, by decide +kernel⟩, ErrA.Sets.nil, rfl⟩
  nd := by decide +kernel
  bind := fun _ _ _ _ _ _ _ _ us hl => match us, hl with | [_, _], _ => rfl
  few := by decide
/-- the texts of a constant tuple -/
def strsAt : List Value → Option (List Str)
  | [] => some []
  | .str x _ :: r => (strsAt r).map (x :: ·)
  | _ => none
theorem vals_strs : ∀ {its : List Value} {xs : List Str}, strsAt its = some xs → Vals (xs.map V.str) its
  | [], _, h => by
    cases h
    exact .nil
  | u :: r, xs, h => by
    cases u with
    | str x t =>
      have h' : (strsAt r).map (x :: ·) = some xs := h
      cases e : strsAt r with
      | none => rw [e] at h'; cases h'
      | some ys =>
        rw [e] at h'
        cases h'
        exact .cons ⟨t, rfl⟩ (vals_strs e)
    | _ => cases h
theorem tup_K {K : PySem.W.Frag} {c : Addr} {d : Option Addr} {its : Array Value} {n : Nat} {sl : Array (Option Value)} {xs : List Str} (l : K.lookup c = some ⟨.type "tuple", d, .seq its n, sl⟩) (v : strsAt its.toList = some xs) (hx : xs.length ≤ 1000) : ∀ H : Hp, SqT K H c (xs.map V.str) := fun H => by
  have e := vals_strs v
  have z := e.length
  rw [List.length_map] at z
  have q : its.toList.length = its.size := Array.length_toList
  have hz : its.size ≤ 1000 := by omega
  exact .inr ⟨_, its, n, l, rfl, rfl, Nat.le_trans hz (by decide), e⟩
def flagNames : List Str := ["used", "free"]
theorem flags_at {K : PySem.W.Frag} {c : Addr} {es : Array DictEntry} {n : Nat} {t1 t2 : Tok} {h1 h2 : Int} (l : K.lookup c = some ⟨.type "dict", none, .dict es n, #[]⟩) (h : es.toList = [⟨h1, .str "used" t1, .bool true⟩, ⟨h2, .str "free" t2, .bool false⟩]) : ∀ z : Str, PySem.W.nsIn K c z = some ((flagM z).map Value.bool) := fun z => by
  have b : ∀ (x : Str) (t : Tok), Value.isStr (.str x t) z = decide (x = z) := fun x t => by
    show (x == z) = _
    by_cases e : x = z
    · rw [decide_eq_true e, e]; exact beq_self_eq_true z
    · rw [decide_eq_false e]; exact beq_eq_false_iff_ne.mpr e
  unfold PySem.W.nsIn flagM
  rw [l]
  dsimp only
  rw [h, List.find?_cons, List.find?_cons, b, b]
  by_cases e1 : z = "used"
  · rw [decide_eq_true e1.symm, if_pos e1]
    rfl
  · rw [decide_eq_false (fun q => e1 q.symm), if_neg e1]
    by_cases e2 : z = "free"
    · rw [decide_eq_true e2.symm, if_pos e2]
      rfl
    · rw [decide_eq_false (fun q => e2 q.symm), if_neg e2]
      rfl

section
variable {w : World} {K : PySem.W.Frag} {mg : Str → Option Value} {h : Heap}
theorem all_mk {fa dT29 CO CH CB CR fI cc cda cMO cFL f13 f14 f15 f16 f17 f18 f19 f20 f21 f22 f26 f28 f29 f30 f31 f32 f46 f47 f48 f49 f50 f51 f52 f53 f54 f61 f62 f63 f64 f65 f66 f67 f68 f69 f70 fm0 fm1 fm2 fm3 fm4 fm5 cqC cqE cqK cqR cqP cqN cqL cqM cqX cqW : Addr} {dqC : Option Addr} {itsqC : Array Value} {nqC : Nat} {slqC : Array (Option Value)} {dqE : Option Addr} {itsqE : Array Value} {nqE : Nat} {slqE : Array (Option Value)} {dqK : Option Addr} {itsqK : Array Value} {nqK : Nat} {slqK : Array (Option Value)} {dqR : Option Addr} {itsqR : Array Value} {nqR : Nat} {slqR : Array (Option Value)} {dqP : Option Addr} {itsqP : Array Value} {nqP : Nat} {slqP : Array (Option Value)} {dqN : Option Addr} {itsqN : Array Value} {nqN : Nat} {slqN : Array (Option Value)} {dqL : Option Addr} {itsqL : Array Value} {nqL : Nat} {slqL : Array (Option Value)} {dqM : Option Addr} {itsqM : Array Value} {nqM : Nat} {slqM : Array (Option Value)} {dqX : Option Addr} {itsqX : Array Value} {nqX : Nat} {slqX : Array (Option Value)} {dqW : Option Addr} {itsqW : Array Value} {nqW : Nat} {slqW : Array (Option Value)} {tiF tiT tiP tiL tiI tiU tiV tF1 tF2 : Tok} {hF1 hF2 : Int} {esM esF : Array DictEntry} {nMo nFl : Nat} {ddT : Option Addr} {itD : Array Value} {nD : Nat} {slD : Array (Option Value)} {nm qq : Str} {N : Addr} {bs bm : List Value} {sn : List Str} {sub : List Value} {ab : Bool} {col : Option Bool} {dd : Option Addr} {k0 k1 k2 k3 k5 : Option Value} {cl : Value} {cld : Option Addr} {csl : Array (Option Value)} {ccl : Value} {cdd : Option Addr} {vs : Array Value} {ccs : Array (Option Value)} {file : Str} {tf : Tok} {ocE : Value} {odE : Option Addr} {kVE docE pmE : Value} {anE : Option Addr} {ctE : Value} {oslE : Array (Option Value)} {oc13 kV13 dc13 pm13 cd13 ct13 : Value} {od13 an13 : Option Addr} {sl13 : Array (Option Value)} {oc14 kV14 dc14 pm14 cd14 ct14 : Value} {od14 an14 : Option Addr} {sl14 : Array (Option Value)} {oc15 kV15 dc15 pm15 cd15 ct15 : Value} {od15 an15 : Option Addr} {sl15 : Array (Option Value)} {oc16 kV16 dc16 pm16 cd16 ct16 : Value} {od16 an16 : Option Addr} {sl16 : Array (Option Value)} {oc17 kV17 dc17 pm17 cd17 ct17 : Value} {od17 an17 : Option Addr} {sl17 : Array (Option Value)} {oc18 kV18 dc18 pm18 cd18 ct18 : Value} {od18 an18 : Option Addr} {sl18 : Array (Option Value)} {oc19 kV19 dc19 pm19 cd19 ct19 : Value} {od19 an19 : Option Addr} {sl19 : Array (Option Value)} {oc20 kV20 dc20 pm20 cd20 ct20 : Value} {od20 an20 : Option Addr} {sl20 : Array (Option Value)} {oc21 kV21 dc21 pm21 cd21 ct21 : Value} {od21 an21 : Option Addr} {sl21 : Array (Option Value)} {oc22 kV22 dc22 pm22 cd22 ct22 : Value} {od22 an22 : Option Addr} {sl22 : Array (Option Value)} {oc26 kV26 dc26 pm26 cd26 ct26 : Value} {od26 an26 : Option Addr} {sl26 : Array (Option Value)} {oc28 kV28 dc28 pm28 cd28 ct28 : Value} {od28 an28 : Option Addr} {sl28 : Array (Option Value)} {oc29 kV29 dc29 pm29 cd29 ct29 : Value} {od29 an29 : Option Addr} {sl29 : Array (Option Value)} {oc30 kV30 dc30 pm30 cd30 ct30 : Value} {od30 an30 : Option Addr} {sl30 : Array (Option Value)} {oc31 kV31 dc31 pm31 cd31 ct31 : Value} {od31 an31 : Option Addr} {sl31 : Array (Option Value)} {oc32 kV32 dc32 pm32 cd32 ct32 : Value} {od32 an32 : Option Addr} {sl32 : Array (Option Value)} {oc46 kV46 dc46 pm46 cd46 ct46 : Value} {od46 an46 : Option Addr} {sl46 : Array (Option Value)} {oc47 kV47 dc47 pm47 cd47 ct47 : Value} {od47 an47 : Option Addr} {sl47 : Array (Option Value)} {oc48 kV48 dc48 pm48 cd48 ct48 : Value} {od48 an48 : Option Addr} {sl48 : Array (Option Value)} {oc49 kV49 dc49 pm49 cd49 ct49 : Value} {od49 an49 : Option Addr} {sl49 : Array (Option Value)} {oc50 kV50 dc50 pm50 cd50 ct50 : Value} {od50 an50 : Option Addr} {sl50 : Array (Option Value)} {oc51 kV51 dc51 pm51 cd51 ct51 : Value} {od51 an51 : Option Addr} {sl51 : Array (Option Value)} {oc52 kV52 dc52 pm52 cd52 ct52 : Value} {od52 an52 : Option Addr} {sl52 : Array (Option Value)} {oc53 kV53 dc53 pm53 cd53 ct53 : Value} {od53 an53 : Option Addr} {sl53 : Array (Option Value)} {oc54 kV54 dc54 pm54 cd54 ct54 : Value} {od54 an54 : Option Addr} {sl54 : Array (Option Value)} {oc61 kV61 dc61 pm61 cd61 ct61 : Value} {od61 an61 : Option Addr} {sl61 : Array (Option Value)} {oc62 kV62 dc62 pm62 cd62 ct62 : Value} {od62 an62 : Option Addr} {sl62 : Array (Option Value)} {oc63 kV63 dc63 pm63 cd63 ct63 : Value} {od63 an63 : Option Addr} {sl63 : Array (Option Value)} {oc64 kV64 dc64 pm64 cd64 ct64 : Value} {od64 an64 : Option Addr} {sl64 : Array (Option Value)} {oc65 kV65 dc65 pm65 cd65 ct65 : Value} {od65 an65 : Option Addr} {sl65 : Array (Option Value)} {oc66 kV66 dc66 pm66 cd66 ct66 : Value} {od66 an66 : Option Addr} {sl66 : Array (Option Value)} {oc67 kV67 dc67 pm67 cd67 ct67 : Value} {od67 an67 : Option Addr} {sl67 : Array (Option Value)} {oc68 kV68 dc68 pm68 cd68 ct68 : Value} {od68 an68 : Option Addr} {sl68 : Array (Option Value)} {oc69 kV69 dc69 pm69 cd69 ct69 : Value} {od69 an69 : Option Addr} {sl69 : Array (Option Value)} {oc70 kV70 dc70 pm70 cd70 ct70 : Value} {od70 an70 : Option Addr} {sl70 : Array (Option Value)} {ocm0 kVm0 dcm0 pmm0 cdm0 ctm0 : Value} {odm0 anm0 : Option Addr} {slm0 : Array (Option Value)} {ocm1 kVm1 dcm1 pmm1 cdm1 ctm1 : Value} {odm1 anm1 : Option Addr} {slm1 : Array (Option Value)} {ocm2 kVm2 dcm2 pmm2 cdm2 ctm2 : Value} {odm2 anm2 : Option Addr} {slm2 : Array (Option Value)} {ocm3 kVm3 dcm3 pmm3 cdm3 ctm3 : Value} {odm3 anm3 : Option Addr} {slm3 : Array (Option Value)} {ocm4 kVm4 dcm4 pmm4 cdm4 ctm4 : Value} {odm4 anm4 : Option Addr} {slm4 : Array (Option Value)} {ocm5 kVm5 dcm5 pmm5 cdm5 ctm5 : Value} {odm5 anm5 : Option Addr} {slm5 : Array (Option Value)} (X : K.In h) (G : h.Ns mainGlobals mg) (hfa : mg "law" = some (.ref fa))
    (a13 : PySem.W.nsIn K mainGlobals "is_whole" = some (some (.ref f13))) (l13 : K.lookup f13 = some ⟨oc13, od13, .func (PySem.W.fnOf "is_whole" "is_whole" (defArgs (top 13)) (defBody (top 13)) (defScope (top 13)) .none kV13 dc13 pm13 an13 cd13 ct13), sl13⟩) (c13 : PySem.W.codeIn K cd13 "is_whole" = true) (k13 : PySem.W.keepIn K (.ref f13) = true)
    (a14 : PySem.W.nsIn K mainGlobals "is_from" = some (some (.ref f14))) (l14 : K.lookup f14 = some ⟨oc14, od14, .func (PySem.W.fnOf "is_from" "is_from" (defArgs (top 14)) (defBody (top 14)) (defScope (top 14)) .none kV14 dc14 pm14 an14 cd14 ct14), sl14⟩) (c14 : PySem.W.codeIn K cd14 "is_from" = true) (k14 : PySem.W.keepIn K (.ref f14) = true)
    (a15 : PySem.W.nsIn K mainGlobals "is_among" = some (some (.ref f15))) (l15 : K.lookup f15 = some ⟨oc15, od15, .func (PySem.W.fnOf "is_among" "is_among" (defArgs (top 15)) (defBody (top 15)) (defScope (top 15)) .none kV15 dc15 pm15 an15 cd15 ct15), sl15⟩) (c15 : PySem.W.codeIn K cd15 "is_among" = true) (k15 : PySem.W.keepIn K (.ref f15) = true)
    (a16 : PySem.W.nsIn K mainGlobals "lines_of" = some (some (.ref f16))) (l16 : K.lookup f16 = some ⟨oc16, od16, .func (PySem.W.fnOf "lines_of" "lines_of" (defArgs (top 16)) (defBody (top 16)) (defScope (top 16)) .none kV16 dc16 pm16 an16 cd16 ct16), sl16⟩) (c16 : PySem.W.codeIn K cd16 "lines_of" = true) (k16 : PySem.W.keepIn K (.ref f16) = true)
    (a17 : PySem.W.nsIn K mainGlobals "number_in" = some (some (.ref f17))) (l17 : K.lookup f17 = some ⟨oc17, od17, .func (PySem.W.fnOf "number_in" "number_in" (defArgs (top 17)) (defBody (top 17)) (defScope (top 17)) .none kV17 dc17 pm17 an17 cd17 ct17), sl17⟩) (c17 : PySem.W.codeIn K cd17 "number_in" = true) (k17 : PySem.W.keepIn K (.ref f17) = true)
    (a18 : PySem.W.nsIn K mainGlobals "term_in" = some (some (.ref f18))) (l18 : K.lookup f18 = some ⟨oc18, od18, .func (PySem.W.fnOf "term_in" "term_in" (defArgs (top 18)) (defBody (top 18)) (defScope (top 18)) .none kV18 dc18 pm18 an18 cd18 ct18), sl18⟩) (c18 : PySem.W.codeIn K cd18 "term_in" = true) (k18 : PySem.W.keepIn K (.ref f18) = true)
    (a19 : PySem.W.nsIn K mainGlobals "sum_in" = some (some (.ref f19))) (l19 : K.lookup f19 = some ⟨oc19, od19, .func (PySem.W.fnOf "sum_in" "sum_in" (defArgs (top 19)) (defBody (top 19)) (defScope (top 19)) .none kV19 dc19 pm19 an19 cd19 ct19), sl19⟩) (c19 : PySem.W.codeIn K cd19 "sum_in" = true) (k19 : PySem.W.keepIn K (.ref f19) = true)
    (a20 : PySem.W.nsIn K mainGlobals "comparison_in" = some (some (.ref f20))) (l20 : K.lookup f20 = some ⟨oc20, od20, .func (PySem.W.fnOf "comparison_in" "comparison_in" (defArgs (top 20)) (defBody (top 20)) (defScope (top 20)) .none kV20 dc20 pm20 an20 cd20 ct20), sl20⟩) (c20 : PySem.W.codeIn K cd20 "comparison_in" = true) (k20 : PySem.W.keepIn K (.ref f20) = true)
    (a21 : PySem.W.nsIn K mainGlobals "parted" = some (some (.ref f21))) (l21 : K.lookup f21 = some ⟨oc21, od21, .func (PySem.W.fnOf "parted" "parted" (defArgs (top 21)) (defBody (top 21)) (defScope (top 21)) .none kV21 dc21 pm21 an21 cd21 ct21), sl21⟩) (c21 : PySem.W.codeIn K cd21 "parted" = true) (k21 : PySem.W.keepIn K (.ref f21) = true)
    (a22 : PySem.W.nsIn K mainGlobals "test_in" = some (some (.ref f22))) (l22 : K.lookup f22 = some ⟨oc22, od22, .func (PySem.W.fnOf "test_in" "test_in" (defArgs (top 22)) (defBody (top 22)) (defScope (top 22)) .none kV22 dc22 pm22 an22 cd22 ct22), sl22⟩) (c22 : PySem.W.codeIn K cd22 "test_in" = true) (k22 : PySem.W.keepIn K (.ref f22) = true)
    (a26 : PySem.W.nsIn K mainGlobals "targets_of" = some (some (.ref f26))) (l26 : K.lookup f26 = some ⟨oc26, od26, .func (PySem.W.fnOf "targets_of" "targets_of" (defArgs (top 26)) (defBody (top 26)) (defScope (top 26)) .none kV26 dc26 pm26 an26 cd26 ct26), sl26⟩) (c26 : PySem.W.codeIn K cd26 "targets_of" = true) (k26 : PySem.W.keepIn K (.ref f26) = true)
    (a28 : PySem.W.nsIn K mainGlobals "read_line" = some (some (.ref f28))) (l28 : K.lookup f28 = some ⟨oc28, od28, .func (PySem.W.fnOf "read_line" "read_line" (defArgs (top 28)) (defBody (top 28)) (defScope (top 28)) .none kV28 dc28 pm28 an28 cd28 ct28), sl28⟩) (c28 : PySem.W.codeIn K cd28 "read_line" = true) (k28 : PySem.W.keepIn K (.ref f28) = true)
    (a29 : PySem.W.nsIn K mainGlobals "read_outline" = some (some (.ref f29))) (l29 : K.lookup f29 = some ⟨oc29, od29, .func (PySem.W.fnOf "read_outline" "read_outline" (defArgs (top 29)) (defBody (top 29)) (defScope (top 29)) (.ref dT29) kV29 dc29 pm29 an29 cd29 ct29), sl29⟩) (c29 : PySem.W.codeIn K cd29 "read_outline" = true) (k29 : PySem.W.keepIn K (.ref f29) = true)
    (a30 : PySem.W.nsIn K mainGlobals "ways_through" = some (some (.ref f30))) (l30 : K.lookup f30 = some ⟨oc30, od30, .func (PySem.W.fnOf "ways_through" "ways_through" (defArgs (top 30)) (defBody (top 30)) (defScope (top 30)) .none kV30 dc30 pm30 an30 cd30 ct30), sl30⟩) (c30 : PySem.W.codeIn K cd30 "ways_through" = true) (k30 : PySem.W.keepIn K (.ref f30) = true)
    (a31 : PySem.W.nsIn K mainGlobals "line_above" = some (some (.ref f31))) (l31 : K.lookup f31 = some ⟨oc31, od31, .func (PySem.W.fnOf "line_above" "line_above" (defArgs (top 31)) (defBody (top 31)) (defScope (top 31)) .none kV31 dc31 pm31 an31 cd31 ct31), sl31⟩) (c31 : PySem.W.codeIn K cd31 "line_above" = true) (k31 : PySem.W.keepIn K (.ref f31) = true)
    (a32 : PySem.W.nsIn K mainGlobals "refuse_least" = some (some (.ref f32))) (l32 : K.lookup f32 = some ⟨oc32, od32, .func (PySem.W.fnOf "refuse_least" "refuse_least" (defArgs (top 32)) (defBody (top 32)) (defScope (top 32)) .none kV32 dc32 pm32 an32 cd32 ct32), sl32⟩) (c32 : PySem.W.codeIn K cd32 "refuse_least" = true) (k32 : PySem.W.keepIn K (.ref f32) = true)
    (a46 : PySem.W.nsIn K mainGlobals "register_step" = some (some (.ref f46))) (l46 : K.lookup f46 = some ⟨oc46, od46, .func (PySem.W.fnOf "register_step" "register_step" (defArgs (top 46)) (defBody (top 46)) (defScope (top 46)) .none kV46 dc46 pm46 an46 cd46 ct46), sl46⟩) (c46 : PySem.W.codeIn K cd46 "register_step" = true) (k46 : PySem.W.keepIn K (.ref f46) = true)
    (a47 : PySem.W.nsIn K mainGlobals "place_step" = some (some (.ref f47))) (l47 : K.lookup f47 = some ⟨oc47, od47, .func (PySem.W.fnOf "place_step" "place_step" (defArgs (top 47)) (defBody (top 47)) (defScope (top 47)) .none kV47 dc47 pm47 an47 cd47 ct47), sl47⟩) (c47 : PySem.W.codeIn K cd47 "place_step" = true) (k47 : PySem.W.keepIn K (.ref f47) = true)
    (a48 : PySem.W.nsIn K mainGlobals "sized_step" = some (some (.ref f48))) (l48 : K.lookup f48 = some ⟨oc48, od48, .func (PySem.W.fnOf "sized_step" "sized_step" (defArgs (top 48)) (defBody (top 48)) (defScope (top 48)) .none kV48 dc48 pm48 an48 cd48 ct48), sl48⟩) (c48 : PySem.W.codeIn K cd48 "sized_step" = true) (k48 : PySem.W.keepIn K (.ref f48) = true)
    (a49 : PySem.W.nsIn K mainGlobals "flag_step" = some (some (.ref f49))) (l49 : K.lookup f49 = some ⟨oc49, od49, .func (PySem.W.fnOf "flag_step" "flag_step" (defArgs (top 49)) (defBody (top 49)) (defScope (top 49)) .none kV49 dc49 pm49 an49 cd49 ct49), sl49⟩) (c49 : PySem.W.codeIn K cd49 "flag_step" = true) (k49 : PySem.W.keepIn K (.ref f49) = true)
    (a50 : PySem.W.nsIn K mainGlobals "tie_step" = some (some (.ref f50))) (l50 : K.lookup f50 = some ⟨oc50, od50, .func (PySem.W.fnOf "tie_step" "tie_step" (defArgs (top 50)) (defBody (top 50)) (defScope (top 50)) .none kV50 dc50 pm50 an50 cd50 ct50), sl50⟩) (c50 : PySem.W.codeIn K cd50 "tie_step" = true) (k50 : PySem.W.keepIn K (.ref f50) = true)
    (a51 : PySem.W.nsIn K mainGlobals "block_step_in" = some (some (.ref f51))) (l51 : K.lookup f51 = some ⟨oc51, od51, .func (PySem.W.fnOf "block_step_in" "block_step_in" (defArgs (top 51)) (defBody (top 51)) (defScope (top 51)) .none kV51 dc51 pm51 an51 cd51 ct51), sl51⟩) (c51 : PySem.W.codeIn K cd51 "block_step_in" = true) (k51 : PySem.W.keepIn K (.ref f51) = true)
    (a52 : PySem.W.nsIn K mainGlobals "block_part_in" = some (some (.ref f52))) (l52 : K.lookup f52 = some ⟨oc52, od52, .func (PySem.W.fnOf "block_part_in" "block_part_in" (defArgs (top 52)) (defBody (top 52)) (defScope (top 52)) .none kV52 dc52 pm52 an52 cd52 ct52), sl52⟩) (c52 : PySem.W.codeIn K cd52 "block_part_in" = true) (k52 : PySem.W.keepIn K (.ref f52) = true)
    (a53 : PySem.W.nsIn K mainGlobals "marks_of" = some (some (.ref f53))) (l53 : K.lookup f53 = some ⟨oc53, od53, .func (PySem.W.fnOf "marks_of" "marks_of" (defArgs (top 53)) (defBody (top 53)) (defScope (top 53)) .none kV53 dc53 pm53 an53 cd53 ct53), sl53⟩) (c53 : PySem.W.codeIn K cd53 "marks_of" = true) (k53 : PySem.W.keepIn K (.ref f53) = true)
    (a54 : PySem.W.nsIn K mainGlobals "is_foreign" = some (some (.ref f54))) (l54 : K.lookup f54 = some ⟨oc54, od54, .func (PySem.W.fnOf "is_foreign" "is_foreign" (defArgs (top 54)) (defBody (top 54)) (defScope (top 54)) .none kV54 dc54 pm54 an54 cd54 ct54), sl54⟩) (c54 : PySem.W.codeIn K cd54 "is_foreign" = true) (k54 : PySem.W.keepIn K (.ref f54) = true)
    (a61 : PySem.W.nsIn K mainGlobals "_law_bag" = some (some (.ref f61))) (l61 : K.lookup f61 = some ⟨oc61, od61, .func (PySem.W.fnOf "_law_bag" "_law_bag" (defArgs (top 61)) (defBody (top 61)) (defScope (top 61)) .none kV61 dc61 pm61 an61 cd61 ct61), sl61⟩) (c61 : PySem.W.codeIn K cd61 "_law_bag" = true) (k61 : PySem.W.keepIn K (.ref f61) = true)
    (a62 : PySem.W.nsIn K mainGlobals "_law_draw" = some (some (.ref f62))) (l62 : K.lookup f62 = some ⟨oc62, od62, .func (PySem.W.fnOf "_law_draw" "_law_draw" (defArgs (top 62)) (defBody (top 62)) (defScope (top 62)) .none kV62 dc62 pm62 an62 cd62 ct62), sl62⟩) (c62 : PySem.W.codeIn K cd62 "_law_draw" = true) (k62 : PySem.W.keepIn K (.ref f62) = true)
    (a63 : PySem.W.nsIn K mainGlobals "_law_lines" = some (some (.ref f63))) (l63 : K.lookup f63 = some ⟨oc63, od63, .func (PySem.W.fnOf "_law_lines" "_law_lines" (defArgs (top 63)) (defBody (top 63)) (defScope (top 63)) .none kV63 dc63 pm63 an63 cd63 ct63), sl63⟩) (c63 : PySem.W.codeIn K cd63 "_law_lines" = true) (k63 : PySem.W.keepIn K (.ref f63) = true)
    (a64 : PySem.W.nsIn K mainGlobals "_law_block" = some (some (.ref f64))) (l64 : K.lookup f64 = some ⟨oc64, od64, .func (PySem.W.fnOf "_law_block" "_law_block" (defArgs (top 64)) (defBody (top 64)) (defScope (top 64)) .none kV64 dc64 pm64 an64 cd64 ct64), sl64⟩) (c64 : PySem.W.codeIn K cd64 "_law_block" = true) (k64 : PySem.W.keepIn K (.ref f64) = true)
    (a65 : PySem.W.nsIn K mainGlobals "_law_ways" = some (some (.ref f65))) (l65 : K.lookup f65 = some ⟨oc65, od65, .func (PySem.W.fnOf "_law_ways" "_law_ways" (defArgs (top 65)) (defBody (top 65)) (defScope (top 65)) .none kV65 dc65 pm65 an65 cd65 ct65), sl65⟩) (c65 : PySem.W.codeIn K cd65 "_law_ways" = true) (k65 : PySem.W.keepIn K (.ref f65) = true)
    (a66 : PySem.W.nsIn K mainGlobals "_law_reads" = some (some (.ref f66))) (l66 : K.lookup f66 = some ⟨oc66, od66, .func (PySem.W.fnOf "_law_reads" "_law_reads" (defArgs (top 66)) (defBody (top 66)) (defScope (top 66)) .none kV66 dc66 pm66 an66 cd66 ct66), sl66⟩) (c66 : PySem.W.codeIn K cd66 "_law_reads" = true) (k66 : PySem.W.keepIn K (.ref f66) = true)
    (a67 : PySem.W.nsIn K mainGlobals "_law_writes" = some (some (.ref f67))) (l67 : K.lookup f67 = some ⟨oc67, od67, .func (PySem.W.fnOf "_law_writes" "_law_writes" (defArgs (top 67)) (defBody (top 67)) (defScope (top 67)) .none kV67 dc67 pm67 an67 cd67 ct67), sl67⟩) (c67 : PySem.W.codeIn K cd67 "_law_writes" = true) (k67 : PySem.W.keepIn K (.ref f67) = true)
    (a68 : PySem.W.nsIn K mainGlobals "_law_faults" = some (some (.ref f68))) (l68 : K.lookup f68 = some ⟨oc68, od68, .func (PySem.W.fnOf "_law_faults" "_law_faults" (defArgs (top 68)) (defBody (top 68)) (defScope (top 68)) .none kV68 dc68 pm68 an68 cd68 ct68), sl68⟩) (c68 : PySem.W.codeIn K cd68 "_law_faults" = true) (k68 : PySem.W.keepIn K (.ref f68) = true)
    (a69 : PySem.W.nsIn K mainGlobals "_law_strange" = some (some (.ref f69))) (l69 : K.lookup f69 = some ⟨oc69, od69, .func (PySem.W.fnOf "_law_strange" "_law_strange" (defArgs (top 69)) (defBody (top 69)) (defScope (top 69)) .none kV69 dc69 pm69 an69 cd69 ct69), sl69⟩) (c69 : PySem.W.codeIn K cd69 "_law_strange" = true) (k69 : PySem.W.keepIn K (.ref f69) = true)
    (a70 : PySem.W.nsIn K mainGlobals "law" = some (some (.ref f70))) (l70 : K.lookup f70 = some ⟨oc70, od70, .func (PySem.W.fnOf "law" "law" (defArgs (top 70)) (defBody (top 70)) (defScope (top 70)) .none kV70 dc70 pm70 an70 cd70 ct70), sl70⟩) (c70 : PySem.W.codeIn K cd70 "law" = true) (k70 : PySem.W.keepIn K (.ref f70) = true)
    (am0 : PySem.W.findIn K (.ref CO) "__init__" = some (some (.ref fm0))) (jm0 : PySem.W.isFn K (.ref fm0) = true) (lm0 : K.lookup fm0 = some ⟨ocm0, odm0, .func (PySem.W.fnOf "__init__" "Outline.__init__" (defArgs (sOI)) (defBody (sOI)) (defScope (sOI)) .none kVm0 dcm0 pmm0 anm0 cdm0 ctm0), slm0⟩) (cm0 : PySem.W.codeIn K cdm0 "Outline.__init__" = true) (km0 : PySem.W.keepIn K (.ref fm0) = true)
    (am1 : PySem.W.findIn K (.ref CO) "step_at" = some (some (.ref fm1))) (jm1 : PySem.W.isFn K (.ref fm1) = true) (lm1 : K.lookup fm1 = some ⟨ocm1, odm1, .func (PySem.W.fnOf "step_at" "Outline.step_at" (defArgs (sStepAt)) (defBody (sStepAt)) (defScope (sStepAt)) .none kVm1 dcm1 pmm1 anm1 cdm1 ctm1), slm1⟩) (cm1 : PySem.W.codeIn K cdm1 "Outline.step_at" = true) (km1 : PySem.W.keepIn K (.ref fm1) = true)
    (am2 : PySem.W.findIn K (.ref CO) "target_at" = some (some (.ref fm2))) (jm2 : PySem.W.isFn K (.ref fm2) = true) (lm2 : K.lookup fm2 = some ⟨ocm2, odm2, .func (PySem.W.fnOf "target_at" "Outline.target_at" (defArgs (sTargetAt)) (defBody (sTargetAt)) (defScope (sTargetAt)) .none kVm2 dcm2 pmm2 anm2 cdm2 ctm2), slm2⟩) (cm2 : PySem.W.codeIn K cdm2 "Outline.target_at" = true) (km2 : PySem.W.keepIn K (.ref fm2) = true)
    (am3 : PySem.W.findIn K (.ref CO) "many_lines" = some (some (.ref fm3))) (jm3 : PySem.W.isFn K (.ref fm3) = true) (lm3 : K.lookup fm3 = some ⟨ocm3, odm3, .func (PySem.W.fnOf "many_lines" "Outline.many_lines" (defArgs (sMany)) (defBody (sMany)) (defScope (sMany)) .none kVm3 dcm3 pmm3 anm3 cdm3 ctm3), slm3⟩) (cm3 : PySem.W.codeIn K cdm3 "Outline.many_lines" = true) (km3 : PySem.W.keepIn K (.ref fm3) = true)
    (am4 : PySem.W.findIn K (.ref CH) "__init__" = some (some (.ref fm4))) (jm4 : PySem.W.isFn K (.ref fm4) = true) (lm4 : K.lookup fm4 = some ⟨ocm4, odm4, .func (PySem.W.fnOf "__init__" "BlockCode.__init__" (defArgs (sBI)) (defBody (sBI)) (defScope (sBI)) .none kVm4 dcm4 pmm4 anm4 cdm4 ctm4), slm4⟩) (cm4 : PySem.W.codeIn K cdm4 "BlockCode.__init__" = true) (km4 : PySem.W.keepIn K (.ref fm4) = true)
    (am5 : PySem.W.findIn K (.ref CB) "__init__" = some (some (.ref fm5))) (jm5 : PySem.W.isFn K (.ref fm5) = true) (lm5 : K.lookup fm5 = some ⟨ocm5, odm5, .func (PySem.W.fnOf "__init__" "BlockRules.__init__" (defArgs (sBR)) (defBody (sBR)) (defScope (sBR)) .none kVm5 dcm5 pmm5 anm5 cdm5 ctm5), slm5⟩) (cm5 : PySem.W.codeIn K cdm5 "BlockRules.__init__" = true) (km5 : PySem.W.keepIn K (.ref fm5) = true)
    (lD : K.lookup dT29 = some ⟨.type "tuple", ddT, .seq itD nD, slD⟩)
    (lDs : (⟨.type "tuple", ddT, .seq itD nD, slD⟩ : Obj).data = .seq #[.none] nD)
    (o_g : PySem.W.nsIn K mainGlobals "Outline" = some (some (.ref CO)))
    (o_pg : PySem.W.plainGet K CO Str.empty = true)
    (o_hd : PySem.W.hasDictIn K CO = true)
    (o_po : PySem.W.plainOver K CO = true)
    (o_sa : PySem.W.findIn K (.ref CO) "__setattr__" = some (some (.builtin "object.__setattr__")))
    (o_mk : PySem.W.makesIn K CO = true)
    (o_kc : PySem.W.keepIn K (.ref CO) = true)
    (o_nrows : PySem.W.findIn K (.ref CO) "rows" = some none)
    (o_nsteps : PySem.W.findIn K (.ref CO) "steps" = some none)
    (o_ntargets : PySem.W.findIn K (.ref CO) "targets" = some none)
    (h_g : PySem.W.nsIn K mainGlobals "BlockCode" = some (some (.ref CH)))
    (h_pg : PySem.W.plainGet K CH Str.empty = true)
    (h_hd : PySem.W.hasDictIn K CH = true)
    (h_po : PySem.W.plainOver K CH = true)
    (h_sa : PySem.W.findIn K (.ref CH) "__setattr__" = some (some (.builtin "object.__setattr__")))
    (h_mk : PySem.W.makesIn K CH = true)
    (h_kc : PySem.W.keepIn K (.ref CH) = true)
    (h_nkind : PySem.W.findIn K (.ref CH) "kind" = some none)
    (h_nrules : PySem.W.findIn K (.ref CH) "rules" = some none)
    (h_ntext : PySem.W.findIn K (.ref CH) "text" = some none)
    (h_noutline : PySem.W.findIn K (.ref CH) "outline" = some none)
    (h_nfindings : PySem.W.findIn K (.ref CH) "findings" = some none)
    (r_g : PySem.W.nsIn K mainGlobals "BlockRules" = some (some (.ref CB)))
    (r_pg : PySem.W.plainGet K CB Str.empty = true)
    (r_hd : PySem.W.hasDictIn K CB = true)
    (r_po : PySem.W.plainOver K CB = true)
    (r_sa : PySem.W.findIn K (.ref CB) "__setattr__" = some (some (.builtin "object.__setattr__")))
    (r_mk : PySem.W.makesIn K CB = true)
    (r_kc : PySem.W.keepIn K (.ref CB) = true)
    (r_nunit : PySem.W.findIn K (.ref CB) "unit" = some none)
    (r_nleast : PySem.W.findIn K (.ref CB) "least" = some none)
    (aqC : PySem.W.nsIn K mainGlobals "COMPARISONS" = some (some (.ref cqC)))
    (lqC : K.lookup cqC = some ⟨.type "tuple", dqC, .seq itsqC nqC, slqC⟩)
    (vqC : strsAt itsqC.toList = some cmps)
    (aqE : PySem.W.nsIn K mainGlobals "ENDERS" = some (some (.ref cqE)))
    (lqE : K.lookup cqE = some ⟨.type "tuple", dqE, .seq itsqE nqE, slqE⟩)
    (vqE : strsAt itsqE.toList = some enders)
    (aqK : PySem.W.nsIn K mainGlobals "BLOCK_KINDS" = some (some (.ref cqK)))
    (lqK : K.lookup cqK = some ⟨.type "tuple", dqK, .seq itsqK nqK, slqK⟩)
    (vqK : strsAt itsqK.toList = some kindsL)
    (aqR : PySem.W.nsIn K mainGlobals "REGISTERS" = some (some (.ref cqR)))
    (lqR : K.lookup cqR = some ⟨.type "tuple", dqR, .seq itsqR nqR, slqR⟩)
    (vqR : strsAt itsqR.toList = some regsL)
    (aqP : PySem.W.nsIn K mainGlobals "PLACES" = some (some (.ref cqP)))
    (lqP : K.lookup cqP = some ⟨.type "tuple", dqP, .seq itsqP nqP, slqP⟩)
    (vqP : strsAt itsqP.toList = some placesL)
    (aqN : PySem.W.nsIn K mainGlobals "KNOWN" = some (some (.ref cqN)))
    (lqN : K.lookup cqN = some ⟨.type "tuple", dqN, .seq itsqN nqN, slqN⟩)
    (vqN : strsAt itsqN.toList = some knownL)
    (aqL : PySem.W.nsIn K mainGlobals "LINKED" = some (some (.ref cqL)))
    (lqL : K.lookup cqL = some ⟨.type "tuple", dqL, .seq itsqL nqL, slqL⟩)
    (vqL : strsAt itsqL.toList = some linkedL)
    (aqM : PySem.W.nsIn K mainGlobals "NAMES" = some (some (.ref cqM)))
    (lqM : K.lookup cqM = some ⟨.type "tuple", dqM, .seq itsqM nqM, slqM⟩)
    (vqM : strsAt itsqM.toList = some namesL)
    (aqX : PySem.W.nsIn K mainGlobals "LINKS" = some (some (.ref cqX)))
    (lqX : K.lookup cqX = some ⟨.type "tuple", dqX, .seq itsqX nqX, slqX⟩)
    (vqX : strsAt itsqX.toList = some linksL)
    (aqW : PySem.W.nsIn K mainGlobals "WRITING" = some (some (.ref cqW)))
    (lqW : K.lookup cqW = some ⟨.type "tuple", dqW, .seq itsqW nqW, slqW⟩)
    (vqW : strsAt itsqW.toList = some writingL)
    (aiF : PySem.W.nsIn K mainGlobals "MOST_FIGURES" = some (some (.int 30 tiF)))
    (aiT : PySem.W.nsIn K mainGlobals "MOST_TERMS" = some (some (.int 4 tiT)))
    (aiP : PySem.W.nsIn K mainGlobals "MOST_PARTS" = some (some (.int 4 tiP)))
    (aiL : PySem.W.nsIn K mainGlobals "MOST_LINES" = some (some (.int 48 tiL)))
    (aiI : PySem.W.nsIn K mainGlobals "MOST_IFS" = some (some (.int 7 tiI)))
    (aiU : PySem.W.nsIn K mainGlobals "MOST_UNIT" = some (some (.int 64 tiU)))
    (aiV : PySem.W.nsIn K mainGlobals "LEAST_LEAST" = some (some (.int 4 tiV)))
    (z0 : PySem.W.nsIn K mainGlobals "isinstance" = some none)
    (z1 : PySem.W.nsIn K mainGlobals "str" = some none)
    (z2 : PySem.W.nsIn K mainGlobals "len" = some none)
    (z3 : PySem.W.nsIn K mainGlobals "int" = some none)
    (z4 : PySem.W.nsIn K mainGlobals "range" = some none)
    (z5 : PySem.W.nsIn K mainGlobals "tuple" = some none)
    (z6 : PySem.W.nsIn K mainGlobals "list" = some none)
    (z7 : PySem.W.nsIn K mainGlobals "enumerate" = some none)
    (z8 : PySem.W.nsIn K mainGlobals "min" = some none)
    (z9 : PySem.W.nsIn K mainGlobals "bool" = some none)
    (z10 : PySem.W.nsIn K mainGlobals "dict" = some none)
    (aMO : PySem.W.nsIn K mainGlobals "MOST" = some (some (.ref cMO)))
    (lMO : K.lookup cMO = some ⟨.type "dict", none, .dict esM nMo, #[]⟩)
    (wMO : PySem.W.KeysLit w.params esM.toList)
    (eMO : EntAt esM.toList mostL)
    (loMO : (cMO == sysModules) = false)
    (aFL : PySem.W.nsIn K mainGlobals "FLAGS" = some (some (.ref cFL)))
    (lFL : K.lookup cFL = some ⟨.type "dict", none, .dict esF nFl, #[]⟩)
    (wFL : PySem.W.KeysLit w.params esF.toList)
    (loFL : (cFL == sysModules) = false)
    (eFL : esF.toList = [⟨hF1, .str "used" tF1, .bool true⟩, ⟨hF2, .str "free" tF2, .bool false⟩])
    (e_a : PySem.W.nsIn K mainGlobals "Refused" = some (some (.ref CR)))
    (e_xL : K.lookup CR = some (excClassObj nm qq CR N bs bm true sn sub ab col dd k0 k1 k2 k3 k5 "ValueError.__new__"))
    (e_hbm : PySem.HandSPX.refsVE bm = true)
    (e_sa : PySem.W.findIn K (.ref CR) "__setattr__" = some (some (.builtin "object.__setattr__")))
    (e_iC : PySem.W.findIn K (.ref CR) "__init__" = some (some (.ref fI)))
    (e_tI : PySem.W.typeIn K (.ref fI) = some (.type "function"))
    (e_kC : PySem.W.keepIn K (.ref CR) = true)
    (e_exC : PySem.W.subIn K (.ref CR) (.type "BaseException") = some true)
    (e_veC : PySem.W.subIn K (.ref CR) (.type "ValueError") = some true)
    (e_meC : PySem.W.mroIn K CR (.ref CR) = some true)
    (e_tyC : PySem.W.typeIn K (.ref CR) = some (.type "type"))
    (e_sup : PySem.W.ks_superIn K CR CR "__init__" = some (some (.builtin "ValueError.__init__")))
    (e_opq : PySem.W.nsIn K cStatics "thirdparty.any" = some none)
    (e_gS : PySem.W.nsIn K mainGlobals "super" = some none)
    (e_fn : K.lookup fI = some ⟨ocE, odE, .func (PySem.W.ksFn "__init__" "Refused.__init__" (defArgs sRefI) (defBody sRefI) (defScope sRefI) .none kVE docE pmE anE (.ref cda) ctE cc), oslE⟩)
    (e_cell : K.lookup cc = some ⟨cl, cld, .cell (some (.ref CR)), csl⟩)
    (e_code : K.lookup cda = some ⟨ccl, cdd, .fields vs, ccs⟩)
    (e_hvs : vs[2]? = some (.str file tf))
    (e_hfile : ((PP.main.file : Str) == file) = true)
    (e_rc : PySem.W.codeIn K (.ref cda) "Refused.__init__" = true)
    (e_n1 : PySem.W.findIn K (.ref CR) "line" = some none)
    (e_ga : PySem.W.findIn K (.ref CR) "__getattribute__" = some (some (.builtin "BaseException.__getattribute__")))
    (e_gg : PySem.W.findIn K (.ref CR) "__getattr__" = some none)
    (e_hd : PySem.W.hasDictIn K CR = true)
    (e_xm : PySem.W.exmOne K (.ref CR) (.ref CR) = some true) :
    ∃ fd : FuncData, (∀ (s : Shared) (v : Value), BindsTo s fd ⟨[v], []⟩ [("_law_script", v)]) ∧ ∀ base : Heap, K.In base → base.Ns mainGlobals mg → FnOk PP w K mg base CX0 51 fa fd ["_law_script"] (spLaw K) := by
  have e := hfa.symm.trans (PySem.W.mg_of X G a70)
  cases e
  have F13 := fun_mk (st := top 13) l13 c13 k13
  have g13 := PySem.W.mg_of X G a13
  have b13 := F13.binds (ps := ["value"]) fun _ _ _ _ _ _ us hl => match us, hl with | [_], _ => rfl
  have F14 := fun_mk (st := top 14) l14 c14 k14
  have g14 := PySem.W.mg_of X G a14
  have b14 := F14.binds (ps := ["value", "least"]) fun _ _ _ _ _ _ us hl => match us, hl with | [_, _], _ => rfl
  have F15 := fun_mk (st := top 15) l15 c15 k15
  have g15 := PySem.W.mg_of X G a15
  have b15 := F15.binds (ps := ["value", "words"]) fun _ _ _ _ _ _ us hl => match us, hl with | [_, _], _ => rfl
  have F16 := fun_mk (st := top 16) l16 c16 k16
  have g16 := PySem.W.mg_of X G a16
  have b16 := F16.binds (ps := ["text"]) fun _ _ _ _ _ _ us hl => match us, hl with | [_], _ => rfl
  have F17 := fun_mk (st := top 17) l17 c17 k17
  have g17 := PySem.W.mg_of X G a17
  have b17 := F17.binds (ps := ["word"]) fun _ _ _ _ _ _ us hl => match us, hl with | [_], _ => rfl
  have F18 := fun_mk (st := top 18) l18 c18 k18
  have g18 := PySem.W.mg_of X G a18
  have b18 := F18.binds (ps := ["word", "names"]) fun _ _ _ _ _ _ us hl => match us, hl with | [_, _], _ => rfl
  have F19 := fun_mk (st := top 19) l19 c19 k19
  have g19 := PySem.W.mg_of X G a19
  have b19 := F19.binds (ps := ["words", "names"]) fun _ _ _ _ _ _ us hl => match us, hl with | [_, _], _ => rfl
  have F20 := fun_mk (st := top 20) l20 c20 k20
  have g20 := PySem.W.mg_of X G a20
  have b20 := F20.binds (ps := ["words", "names"]) fun _ _ _ _ _ _ us hl => match us, hl with | [_, _], _ => rfl
  have F21 := fun_mk (st := top 21) l21 c21 k21
  have g21 := PySem.W.mg_of X G a21
  have b21 := F21.binds (ps := ["words"]) fun _ _ _ _ _ _ us hl => match us, hl with | [_], _ => rfl
  have F22 := fun_mk (st := top 22) l22 c22 k22
  have g22 := PySem.W.mg_of X G a22
  have b22 := F22.binds (ps := ["words", "part_in", "kind"]) fun _ _ _ _ _ _ us hl => match us, hl with | [_, _, _], _ => rfl
  have F26 := fun_mk (st := top 26) l26 c26 k26
  have g26 := PySem.W.mg_of X G a26
  have b26 := F26.binds (ps := ["steps"]) fun _ _ _ _ _ _ us hl => match us, hl with | [_], _ => rfl
  have F28 := fun_mk (st := top 28) l28 c28 k28
  have g28 := PySem.W.mg_of X G a28
  have b28 := F28.binds (ps := ["words", "kind", "step_in", "part_in", "loop_in", "nest"]) fun _ _ _ _ _ _ us hl => match us, hl with | [_, _, _, _, _, _], _ => rfl
  have F29 := outl_fund l29 lD lDs c29 k29
  have g29 := PySem.W.mg_of X G a29
  obtain ⟨ds29, r29, b29⟩ := outl_binds F29
  have F30 := fun_mk (st := top 30) l30 c30 k30
  have g30 := PySem.W.mg_of X G a30
  have b30 := F30.binds (ps := ["outline"]) fun _ _ _ _ _ _ us hl => match us, hl with | [_], _ => rfl
  have F31 := fun_mk (st := top 31) l31 c31 k31
  have g31 := PySem.W.mg_of X G a31
  have b31 := F31.binds (ps := ["outline", "way", "marks_of", "most"]) fun _ _ _ _ _ _ us hl => match us, hl with | [_, _, _, _], _ => rfl
  have F32 := fun_mk (st := top 32) l32 c32 k32
  have g32 := PySem.W.mg_of X G a32
  have b32 := F32.binds (ps := ["lines"]) fun _ _ _ _ _ _ us hl => match us, hl with | [_], _ => rfl
  have F46 := fun_mk (st := top 46) l46 c46 k46
  have g46 := PySem.W.mg_of X G a46
  have b46 := F46.binds (ps := ["words"]) fun _ _ _ _ _ _ us hl => match us, hl with | [_], _ => rfl
  have F47 := fun_mk (st := top 47) l47 c47 k47
  have g47 := PySem.W.mg_of X G a47
  have b47 := F47.binds (ps := ["words"]) fun _ _ _ _ _ _ us hl => match us, hl with | [_], _ => rfl
  have F48 := fun_mk (st := top 48) l48 c48 k48
  have g48 := PySem.W.mg_of X G a48
  have b48 := F48.binds (ps := ["words"]) fun _ _ _ _ _ _ us hl => match us, hl with | [_], _ => rfl
  have F49 := fun_mk (st := top 49) l49 c49 k49
  have g49 := PySem.W.mg_of X G a49
  have b49 := F49.binds (ps := ["words"]) fun _ _ _ _ _ _ us hl => match us, hl with | [_], _ => rfl
  have F50 := fun_mk (st := top 50) l50 c50 k50
  have g50 := PySem.W.mg_of X G a50
  have b50 := F50.binds (ps := ["words"]) fun _ _ _ _ _ _ us hl => match us, hl with | [_], _ => rfl
  have F51 := fun_mk (st := top 51) l51 c51 k51
  have g51 := PySem.W.mg_of X G a51
  have b51 := F51.binds (ps := ["words", "kind"]) fun _ _ _ _ _ _ us hl => match us, hl with | [_, _], _ => rfl
  have F52 := fun_mk (st := top 52) l52 c52 k52
  have g52 := PySem.W.mg_of X G a52
  have b52 := F52.binds (ps := ["words", "kind"]) fun _ _ _ _ _ _ us hl => match us, hl with | [_, _], _ => rfl
  have F53 := fun_mk (st := top 53) l53 c53 k53
  have g53 := PySem.W.mg_of X G a53
  have b53 := F53.binds (ps := ["step"]) fun _ _ _ _ _ _ us hl => match us, hl with | [_], _ => rfl
  have F54 := fun_mk (st := top 54) l54 c54 k54
  have g54 := PySem.W.mg_of X G a54
  have b54 := F54.binds (ps := ["row", "step", "kind"]) fun _ _ _ _ _ _ us hl => match us, hl with | [_, _, _], _ => rfl
  have F61 := fun_mk (st := top 61) l61 c61 k61
  have g61 := PySem.W.mg_of X G a61
  have b61 := F61.binds (ps := ["_law_script"]) fun _ _ _ _ _ _ us hl => match us, hl with | [_], _ => rfl
  have F62 := fun_mk (st := top 62) l62 c62 k62
  have g62 := PySem.W.mg_of X G a62
  have b62 := F62.binds (ps := ["_law_bag_here", "_law_limit"]) fun _ _ _ _ _ _ us hl => match us, hl with | [_, _], _ => rfl
  have F63 := fun_mk (st := top 63) l63 c63 k63
  have g63 := PySem.W.mg_of X G a63
  have b63 := F63.binds (ps := ["_law_bag_here", "_law_deep", "_law_left"]) fun _ _ _ _ _ _ us hl => match us, hl with | [_, _, _], _ => rfl
  have F64 := fun_mk (st := top 64) l64 c64 k64
  have g64 := PySem.W.mg_of X G a64
  have b64 := F64.binds (ps := ["_law_lines_here", "_law_at"]) fun _ _ _ _ _ _ us hl => match us, hl with | [_, _], _ => rfl
  have F65 := fun_mk (st := top 65) l65 c65 k65
  have g65 := PySem.W.mg_of X G a65
  have b65 := F65.binds (ps := ["_law_lines_here", "_law_first", "_law_last"]) fun _ _ _ _ _ _ us hl => match us, hl with | [_, _, _], _ => rfl
  have F66 := fun_mk (st := top 66) l66 c66 k66
  have g66 := PySem.W.mg_of X G a66
  have b66 := F66.binds (ps := ["_law_text"]) fun _ _ _ _ _ _ us hl => match us, hl with | [_], _ => rfl
  have F67 := fun_mk (st := top 67) l67 c67 k67
  have g67 := PySem.W.mg_of X G a67
  have b67 := F67.binds (ps := ["_law_text"]) fun _ _ _ _ _ _ us hl => match us, hl with | [_], _ => rfl
  have F68 := fun_mk (st := top 68) l68 c68 k68
  have g68 := PySem.W.mg_of X G a68
  have b68 := F68.binds (ps := ["_law_lines_here", "_law_told"]) fun _ _ _ _ _ _ us hl => match us, hl with | [_, _], _ => rfl
  have F69 := fun_mk (st := top 69) l69 c69 k69
  have g69 := PySem.W.mg_of X G a69
  have b69 := F69.binds (ps := ["_law_kind", "_law_text"]) fun _ _ _ _ _ _ us hl => match us, hl with | [_, _], _ => rfl
  have F70 := fun_mk (st := top 70) l70 c70 k70
  have g70 := PySem.W.mg_of X G a70
  have Fm0 := fun_mk (st := sOI) lm0 cm0 km0
  have bm0 := Fm0.binds (ps := ["self", "rows", "steps"]) fun _ _ _ _ _ _ us hl => match us, hl with | [_, _, _], _ => rfl
  have Fm1 := fun_mk (st := sStepAt) lm1 cm1 km1
  have bm1 := Fm1.binds (ps := ["self", "line"]) fun _ _ _ _ _ _ us hl => match us, hl with | [_, _], _ => rfl
  have Fm2 := fun_mk (st := sTargetAt) lm2 cm2 km2
  have bm2 := Fm2.binds (ps := ["self", "line"]) fun _ _ _ _ _ _ us hl => match us, hl with | [_, _], _ => rfl
  have Fm3 := fun_mk (st := sMany) lm3 cm3 km3
  have bm3 := Fm3.binds (ps := ["self"]) fun _ _ _ _ _ _ us hl => match us, hl with | [_], _ => rfl
  have Fm4 := fun_mk (st := sBI) lm4 cm4 km4
  have bm4 := Fm4.binds (ps := ["self", "kind", "rules", "text"]) fun _ _ _ _ _ _ us hl => match us, hl with | [_, _, _, _], _ => rfl
  have Fm5 := fun_mk (st := sBR) lm5 cm5 km5
  have bm5 := Fm5.binds (ps := ["self", "unit", "least"]) fun _ _ _ _ _ _ us hl => match us, hl with | [_, _, _], _ => rfl
  have TN : TxtN mg := ⟨(PySem.W.mg_none_of X G z0), (PySem.W.mg_none_of X G z1), (PySem.W.mg_none_of X G z2), (PySem.W.mg_none_of X G z3), (PySem.W.mg_none_of X G z4), (PySem.W.mg_none_of X G z5), (PySem.W.mg_none_of X G z6), (PySem.W.mg_none_of X G z7), (PySem.W.mg_none_of X G z8), ⟨_, PySem.W.mg_of X G aiF⟩, ⟨_, PySem.W.mg_of X G aiT⟩, ⟨_, PySem.W.mg_of X G aiP⟩⟩
  have TB : TxtB mg := ⟨(PySem.W.mg_none_of X G z2), (PySem.W.mg_none_of X G z3), (PySem.W.mg_none_of X G z6), (PySem.W.mg_none_of X G z4)⟩
  have TT : TxtT K mg := ⟨⟨_, PySem.W.mg_of X G aqC, tup_K lqC vqC (by decide)⟩⟩
  have TW : TxtW K mg := ⟨⟨_, PySem.W.mg_of X G aqE, tup_K lqE vqE (by decide)⟩⟩
  have TWh : TxtWh mg := ⟨(PySem.W.mg_none_of X G z0), (PySem.W.mg_none_of X G z3), (PySem.W.mg_none_of X G z9)⟩
  have TC : TxtC K w mg := ⟨⟨_, PySem.W.mg_of X G aqK, tup_K lqK vqK (by decide)⟩, ⟨_, PySem.W.mg_of X G aqR, tup_K lqR vqR (by decide)⟩, ⟨_, PySem.W.mg_of X G aqP, tup_K lqP vqP (by decide)⟩, ⟨_, PySem.W.mg_of X G aqN, tup_K lqN vqN (by decide)⟩, ⟨_, PySem.W.mg_of X G aqL, tup_K lqL vqL (by decide)⟩, ⟨_, PySem.W.mg_of X G aqM, tup_K lqM vqM (by decide)⟩, ⟨_, PySem.W.mg_of X G aqX, tup_K lqX vqX (by decide)⟩, ⟨_, PySem.W.mg_of X G aqW, tup_K lqW vqW (by decide)⟩, ⟨_, _, _, PySem.W.mg_of X G aFL, ⟨lFL, wFL, loFL⟩, flags_at lFL eFL⟩⟩
  have TO : TxtO K mg CO := ⟨⟨o_pg, o_hd, o_po, o_sa⟩, o_nrows, o_nsteps, o_ntargets, PySem.W.mg_of X G o_g⟩
  have TK : TxtK K w mg CH := ⟨⟨h_pg, h_hd, h_po, h_sa⟩, h_nkind, h_nrules, h_ntext, h_noutline, h_nfindings, PySem.W.mg_of X G h_g, ⟨_, PySem.W.mg_of X G aiL⟩, ⟨_, PySem.W.mg_of X G aiI⟩, ⟨_, PySem.W.mg_of X G aMO, _, _, ⟨lMO, wMO, loMO⟩, eMO, by decide +kernel, by decide⟩, (PySem.W.mg_none_of X G z10)⟩
  have TBR : TxtBR K mg CB := ⟨⟨r_pg, r_hd, r_po, r_sa⟩, r_nunit, r_nleast, PySem.W.mg_of X G r_g, ⟨_, PySem.W.mg_of X G aiU⟩, ⟨_, PySem.W.mg_of X G aiV⟩⟩
  have TR : TxtR PP K mg CR fI cc cda := ⟨PySem.W.mg_of X G e_a, ⟨⟨_, _, _, _, _, _, _, _, _, _, _, _, _, _, _, e_xL, e_hbm⟩, e_sa, e_iC, e_tI, e_kC, e_exC, e_veC, e_meC, e_tyC, e_sup, e_opq, e_gS, ⟨_, _, _, e_cell⟩, ⟨_, _, _, _, _, _, e_code, e_hvs, e_hfile⟩, e_rc, ⟨_, _, _, _, _, _, _, _, e_fn⟩⟩, eb_ref, fun g hg => by
    rw [List.mem_singleton.mp hg]
    exact e_n1, (PySem.W.mg_none_of X G z8)⟩
  have MO : Mk K CO fm0 := ⟨o_mk, am0, jm0, o_kc⟩
  have MH : Mk K CH fm4 := ⟨h_mk, am4, jm4, h_kc⟩
  have MB : Mk K CB fm5 := ⟨r_mk, am5, jm5, r_kc⟩
  refine ⟨PySem.W.fnOf "law" "law" (defArgs (top 70)) (defBody (top 70)) (defScope (top 70)) .none kV70 dc70 pm70 an70 cd70 ct70, fun s v => .of_eq rfl, fun base _ _ => ?_⟩
  have O17 := ok_num (P := PP) (w := w) (base := base) F17 TN
  have O18 := ok_term (P := PP) (w := w) (base := base) F18 TN F17 b17 g17
  have O19 := ok_sum F19 TN O18 k18 b18 g18
  have O20 := ok_comp F20 TN TT O18 k18 b18 g18
  have O21 := ok_parted (P := PP) (w := w) (mg := mg) (base := base) F21
  have O46 := ok_reg F46 TN TC O19 k19 b19 g19
  have O47 := ok_place F47 TN TC O19 k19 b19 g19
  have O48 := ok_sized F48 TN TC O19 k19 b19 g19
  have O49 := ok_flag (P := PP) (base := base) F49 TN TC
  have O50 := ok_tie (P := PP) (base := base) F50 TN TC
  have O51 := ok_step F51 TN TC O46 k46 b46 g46 O47 k47 b47 g47 O48 k48 b48 g48 O49 k49 b49 g49 O50 k50 b50 g50
  have O52 := ok_hpart F52 TN TC O20 k20 b20 g20
  have O22 := ok_test F22 TN O21 k21 b21 g21 (by decide) O52 k52 b52
  have O53 := ok_marks (P := PP) (w := w) (base := base) F53 TC
  have O54 := ok_foreign (P := PP) (w := w) (mg := mg) (base := base) F54
  have O16 := ok_lines (P := PP) (w := w) (mg := mg) (base := base) F16
  have O26 := ok_targets (P := PP) (w := w) (base := base) F26 TN
  have Om0 := ok_oinit Fm0 TN TO O26 k26 b26 g26
  have Om1 := ok_stepat (P := PP) (w := w) (base := base) Fm1 TO
  have Om2 := ok_targetat (P := PP) (w := w) (base := base) Fm2 TO
  have Om3 := ok_many (P := PP) (w := w) (base := base) Fm3 TN TO
  have O28 := ok_read F28 O22 k22 b22 g22 O51 k51 b51
  have O29 := ok_outl F29 TN TO O16 k16 b16 g16 O28 k28 b28 g28 MO Om0 bm0
  have O30 := ok_ways F30 TN TO TW Om3 ⟨am3, jm3, km3⟩ bm3 Om1 ⟨am1, jm1, km1⟩ bm1 Om2 ⟨am2, jm2, km2⟩ bm2
  have O31 := ok_above F31 TN TO Om1 ⟨am1, jm1, km1⟩ bm1 O53 k53 b53
  have O32 := ok_refuse (w := w) (base := base) F32 TN TR
  have O15 := ok_among (P := PP) (w := w) (base := base) F15 TN
  have O13 := ok_wh (P := PP) (w := w) (K := K) (base := base) F13 TWh
  have O14 := ok_from F14 O13 k13 b13 g13
  have Om5 := ok_rinit Fm5 TBR O14 k14 b14 g14
  have Om4 := ok_binit Fm4 TN TC TK TO O15 k15 b15 g15 O29 k29 b29 r29 g29 g51 g52 g53 O30 k30 b30 g30 O31 k31 b31 g31 O32 k32 b32 g32 O54 k54 b54 g54 Om3 ⟨am3, jm3, km3⟩ bm3 Om1 ⟨am1, jm1, km1⟩ bm1
  have O61 := ok_bag (P := PP) (w := w) (base := base) F61 TB
  have O62 := ok_draw (P := PP) (w := w) (K := K) (base := base) F62 TB
  have O63 := ok_lls F63 TB O62 k62 b62 g62 g63 b63 2
  have O64 := ok_lblock (P := PP) (w := w) (base := base) F64 TB
  have O65 := ok_lws F65 TB O64 k64 b64 g64 g65 b65 48
  have O66 := ok_lreads (P := PP) (w := w) (K := K) (base := base) F66 TB
  have O67 := ok_lwrites (P := PP) (w := w) (K := K) (base := base) F67 TB
  have O68 := ok_lf (P := PP) (w := w) (base := base) F68 TB O66 k66 b66 g66 O67 k67 b67 g67
  have O69 := ok_lstrange (P := PP) (w := w) (K := K) (mg := mg) (base := base) F69
  exact ok_law F70 TB TN.min O61 k61 b61 g61 O62 k62 b62 g62 O63 k63 b63 g63 O65 k65 b65 g65 O68 k68 b68 g68 O69 k69 b69 g69 MH Om4 bm4 (PySem.W.mg_of X G h_g) MB Om5 bm5 (PySem.W.mg_of X G r_g) (PySem.W.mg_of X G e_a) e_xm ⟨e_ga, e_gg, e_exC, e_hd⟩ e_n1
theorem walk {l : PySem.W.OpenLaw} {q : Program} {loose : List Str} {XP : (Str → Option Value) → Heap → Prop} {YP : World → Heap → Prop} {d : DefRec} {K : Params → PySem.W.Frag} (hn : l.most = some 63) (hdf : d.params.defaults = [])
    (hY : ∀ (w : World) (h : Heap), YP w h → (K w.params).In h)
    (F : ∀ (w : World) (mg : Str → Option Value) (fa : Addr) (h : Heap), (K w.params).In h → h.Ns mainGlobals mg → mg d.name = some (.ref fa) →
      ∃ fd : FuncData, (∀ (s : Shared) (u : Value), BindsTo s fd ⟨[u], []⟩ [("_law_script", u)]) ∧ ∀ base : Heap, (K w.params).In base → base.Ns mainGlobals mg → FnOk l.prog w (K w.params) mg base CX0 51 fa fd ["_law_script"] (spLaw (K w.params))) :
    PySem.W.WalkO q loose XP YP l.row.toRowW d [] (fun f vs => PySem.call f vs) :=
  L2.walk_of (n := 63) (k := 51) (x := "_law_script") (CX := fun _ => CX0) (sp := fun w => spLaw (K w.params)) hn (by decide) hdf ⟨rfl, by decide, by decide⟩ hY F (fun _ _ a ns hl _ hS => ⟨a, ns, rfl, hS, hl, fun _ => rfl⟩) fun _ _ _ _ _ z => z
end
end K15

set_option Elab.async false
set_option linter.all false
set_option maxRecDepth 100000
open PySem PySem.W PyProof.Rows
set_option maxRecDepth 100000 in
set_option maxHeartbeats 0 in
theorem PySem.Challenge.cw_tagblocks_k15_whole_block_limits_by_ways_holds : PySem.Challenge.rw_tagblocks_k15_whole_block_limits_by_ways.Holds := by
  w_on; o_law; k_head; (case hw => w_witness2)
  k_fill
  refine K15.walk (l := PySem.Challenge.rw_tagblocks_k15_whole_block_limits_by_ways) rfl rfl (fun w h Y => PySem.W.kIn_of Y) ?F
  case F =>
    intro w mg fa h KX G hmg
    refine' K15.all_mk KX G hmg ?a13 ?l13 ?c13 ?k13 ?a14 ?l14 ?c14 ?k14 ?a15 ?l15 ?c15 ?k15 ?a16 ?l16 ?c16 ?k16 ?a17 ?l17 ?c17 ?k17 ?a18 ?l18 ?c18 ?k18 ?a19 ?l19 ?c19 ?k19 ?a20 ?l20 ?c20 ?k20 ?a21 ?l21 ?c21 ?k21 ?a22 ?l22 ?c22 ?k22 ?a26 ?l26 ?c26 ?k26 ?a28 ?l28 ?c28 ?k28 ?a29 ?l29 ?c29 ?k29 ?a30 ?l30 ?c30 ?k30 ?a31 ?l31 ?c31 ?k31 ?a32 ?l32 ?c32 ?k32 ?a46 ?l46 ?c46 ?k46 ?a47 ?l47 ?c47 ?k47 ?a48 ?l48 ?c48 ?k48 ?a49 ?l49 ?c49 ?k49 ?a50 ?l50 ?c50 ?k50 ?a51 ?l51 ?c51 ?k51 ?a52 ?l52 ?c52 ?k52 ?a53 ?l53 ?c53 ?k53 ?a54 ?l54 ?c54 ?k54 ?a61 ?l61 ?c61 ?k61 ?a62 ?l62 ?c62 ?k62 ?a63 ?l63 ?c63 ?k63 ?a64 ?l64 ?c64 ?k64 ?a65 ?l65 ?c65 ?k65 ?a66 ?l66 ?c66 ?k66 ?a67 ?l67 ?c67 ?k67 ?a68 ?l68 ?c68 ?k68 ?a69 ?l69 ?c69 ?k69 ?a70 ?l70 ?c70 ?k70 ?am0 ?jm0 ?lm0 ?cm0 ?km0 ?am1 ?jm1 ?lm1 ?cm1 ?km1 ?am2 ?jm2 ?lm2 ?cm2 ?km2 ?am3 ?jm3 ?lm3 ?cm3 ?km3 ?am4 ?jm4 ?lm4 ?cm4 ?km4 ?am5 ?jm5 ?lm5 ?cm5 ?km5 ?lD ?lDs ?o_g ?o_pg ?o_hd ?o_po ?o_sa ?o_mk ?o_kc ?o_nrows ?o_nsteps ?o_ntargets ?h_g ?h_pg ?h_hd ?h_po ?h_sa ?h_mk ?h_kc ?h_nkind ?h_nrules ?h_ntext ?h_noutline ?h_nfindings ?r_g ?r_pg ?r_hd ?r_po ?r_sa ?r_mk ?r_kc ?r_nunit ?r_nleast ?aqC ?lqC ?vqC ?aqE ?lqE ?vqE ?aqK ?lqK ?vqK ?aqR ?lqR ?vqR ?aqP ?lqP ?vqP ?aqN ?lqN ?vqN ?aqL ?lqL ?vqL ?aqM ?lqM ?vqM ?aqX ?lqX ?vqX ?aqW ?lqW ?vqW ?aiF ?aiT ?aiP ?aiL ?aiI ?aiU ?aiV ?z0 ?z1 ?z2 ?z3 ?z4 ?z5 ?z6 ?z7 ?z8 ?z9 ?z10 ?aMO ?lMO ?wMO ?eMO ?loMO ?aFL ?lFL ?wFL ?loFL ?eFL ?e_a ?e_xL ?e_hbm ?e_sa ?e_iC ?e_tI ?e_kC ?e_exC ?e_veC ?e_meC ?e_tyC ?e_sup ?e_opq ?e_gS ?e_fn ?e_cell ?e_code ?e_hvs ?e_hfile ?e_rc ?e_n1 ?e_ga ?e_gg ?e_hd ?e_xm
    (case o_g => k_is); (case h_g => k_is); (case r_g => k_is); (case a13 => k_is); (case l13 => k_is); (case c13 => k_is)
    (case k13 => k_is); (case a14 => k_is); (case l14 => k_is); (case c14 => k_is); (case k14 => k_is); (case a15 => k_is)
    (case l15 => k_is); (case c15 => k_is); (case k15 => k_is); (case a16 => k_is); (case l16 => k_is); (case c16 => k_is)
    (case k16 => k_is); (case a17 => k_is); (case l17 => k_is); (case c17 => k_is); (case k17 => k_is); (case a18 => k_is)
    (case l18 => k_is); (case c18 => k_is); (case k18 => k_is); (case a19 => k_is); (case l19 => k_is); (case c19 => k_is)
    (case k19 => k_is); (case a20 => k_is); (case l20 => k_is); (case c20 => k_is); (case k20 => k_is); (case a21 => k_is)
    (case l21 => k_is); (case c21 => k_is); (case k21 => k_is); (case a22 => k_is); (case l22 => k_is); (case c22 => k_is)
    (case k22 => k_is); (case a26 => k_is); (case l26 => k_is); (case c26 => k_is); (case k26 => k_is); (case a28 => k_is)
    (case l28 => k_is); (case c28 => k_is); (case k28 => k_is); (case a29 => k_is); (case l29 => k_is); (case c29 => k_is)
    (case k29 => k_is); (case a30 => k_is); (case l30 => k_is); (case c30 => k_is); (case k30 => k_is); (case a31 => k_is)
    (case l31 => k_is); (case c31 => k_is); (case k31 => k_is); (case a32 => k_is); (case l32 => k_is); (case c32 => k_is)
    (case k32 => k_is); (case a46 => k_is); (case l46 => k_is); (case c46 => k_is); (case k46 => k_is); (case a47 => k_is)
    (case l47 => k_is); (case c47 => k_is); (case k47 => k_is); (case a48 => k_is); (case l48 => k_is); (case c48 => k_is)
    (case k48 => k_is); (case a49 => k_is); (case l49 => k_is); (case c49 => k_is); (case k49 => k_is); (case a50 => k_is)
    (case l50 => k_is); (case c50 => k_is); (case k50 => k_is); (case a51 => k_is); (case l51 => k_is); (case c51 => k_is)
    (case k51 => k_is); (case a52 => k_is); (case l52 => k_is); (case c52 => k_is); (case k52 => k_is); (case a53 => k_is)
    (case l53 => k_is); (case c53 => k_is); (case k53 => k_is); (case a54 => k_is); (case l54 => k_is); (case c54 => k_is)
    (case k54 => k_is); (case a61 => k_is); (case l61 => k_is); (case c61 => k_is); (case k61 => k_is); (case a62 => k_is)
    (case l62 => k_is); (case c62 => k_is); (case k62 => k_is); (case a63 => k_is); (case l63 => k_is); (case c63 => k_is)
    (case k63 => k_is); (case a64 => k_is); (case l64 => k_is); (case c64 => k_is); (case k64 => k_is); (case a65 => k_is)
    (case l65 => k_is); (case c65 => k_is); (case k65 => k_is); (case a66 => k_is); (case l66 => k_is); (case c66 => k_is)
    (case k66 => k_is); (case a67 => k_is); (case l67 => k_is); (case c67 => k_is); (case k67 => k_is); (case a68 => k_is)
    (case l68 => k_is); (case c68 => k_is); (case k68 => k_is); (case a69 => k_is); (case l69 => k_is); (case c69 => k_is)
    (case k69 => k_is); (case a70 => k_is); (case l70 => k_is); (case c70 => k_is); (case k70 => k_is); (case am0 => k_is)
    (case jm0 => k_is); (case lm0 => k_is); (case cm0 => k_is); (case km0 => k_is); (case am1 => k_is); (case jm1 => k_is)
    (case lm1 => k_is); (case cm1 => k_is); (case km1 => k_is); (case am2 => k_is); (case jm2 => k_is); (case lm2 => k_is)
    (case cm2 => k_is); (case km2 => k_is); (case am3 => k_is); (case jm3 => k_is); (case lm3 => k_is); (case cm3 => k_is)
    (case km3 => k_is); (case am4 => k_is); (case jm4 => k_is); (case lm4 => k_is); (case cm4 => k_is); (case km4 => k_is)
    (case am5 => k_is); (case jm5 => k_is); (case lm5 => k_is); (case cm5 => k_is); (case km5 => k_is); (case lD => k_is)
    (case lDs => rfl); (case o_pg => k_is); (case o_hd => k_is); (case o_po => k_is); (case o_sa => k_is); (case o_mk => k_is)
    (case o_kc => k_is); (case o_nrows => k_is); (case o_nsteps => k_is); (case o_ntargets => k_is); (case h_pg => k_is); (case h_hd => k_is)
    (case h_po => k_is); (case h_sa => k_is); (case h_mk => k_is); (case h_kc => k_is); (case h_nkind => k_is); (case h_nrules => k_is)
    (case h_ntext => k_is); (case h_noutline => k_is); (case h_nfindings => k_is); (case r_pg => k_is); (case r_hd => k_is); (case r_po => k_is)
    (case r_sa => k_is); (case r_mk => k_is); (case r_kc => k_is); (case r_nunit => k_is); (case r_nleast => k_is); (case aqC => k_is)
    (case lqC => k_is); (case vqC => rfl); (case aqE => k_is); (case lqE => k_is); (case vqE => rfl); (case aqK => k_is)
    (case lqK => k_is); (case vqK => rfl); (case aqR => k_is); (case lqR => k_is); (case vqR => rfl); (case aqP => k_is)
    (case lqP => k_is); (case vqP => rfl); (case aqN => k_is); (case lqN => k_is); (case vqN => rfl); (case aqL => k_is)
    (case lqL => k_is); (case vqL => rfl); (case aqM => k_is); (case lqM => k_is); (case vqM => rfl); (case aqX => k_is)
    (case lqX => k_is); (case vqX => rfl); (case aqW => k_is); (case lqW => k_is); (case vqW => rfl); (case aiF => k_is)
    (case aiT => k_is); (case aiP => k_is); (case aiL => k_is); (case aiI => k_is); (case aiU => k_is); (case aiV => k_is)
    (case z0 => k_is); (case z1 => k_is); (case z2 => k_is); (case z3 => k_is); (case z4 => k_is); (case z5 => k_is)
    (case z6 => k_is); (case z7 => k_is); (case z8 => k_is); (case z9 => k_is); (case z10 => k_is); (case aMO => k_is)
    (case lMO => k_is); (case wMO => exact He.keysLit_of (ks := K15.markN) rfl); (case eMO => exact ⟨⟨⟨_, rfl⟩, _, rfl⟩, ⟨⟨_, rfl⟩, _, rfl⟩, ⟨⟨_, rfl⟩, _, rfl⟩, ⟨⟨_, rfl⟩, _, rfl⟩, ⟨⟨_, rfl⟩, _, rfl⟩, ⟨⟨_, rfl⟩, _, rfl⟩, ⟨⟨_, rfl⟩, _, rfl⟩, ⟨⟨_, rfl⟩, _, rfl⟩, ⟨⟨_, rfl⟩, _, rfl⟩, trivial⟩); (case loMO => rfl); (case aFL => k_is); (case lFL => k_is)
    (case wFL => exact He.keysLit_of (ks := K15.flagNames) rfl); (case loFL => rfl); (case eFL => rfl); (case e_a => k_is); (case e_xL => k_is); (case e_hbm => decide +kernel)
    (case e_sa => k_is); (case e_iC => k_is); (case e_tI => k_is); (case e_kC => k_is); (case e_exC => k_is); (case e_veC => k_is)
    (case e_meC => k_is); (case e_tyC => k_is); (case e_sup => ks_is); (case e_opq => k_is); (case e_gS => k_is); (case e_fn => k_is)
    (case e_cell => k_is); (case e_code => k_is); (case e_hvs => rfl); (case e_hfile => decide +kernel); (case e_rc => k_is); (case e_n1 => k_is)
    (case e_ga => k_is); (case e_gg => k_is); (case e_hd => k_is); (case e_xm => kernel_rfl)
