import PyProof.Rows.All
import Wide.All
import OpenK.AllK
import Wide.FinOn
import PyProof.EqAt
import PyProof.EqKinds
import PyProof.TupleCall
import KE.KExcSuper
import KE.KExcIs
import HandS.ForMost
import HandS.Exc
import HandS.ExcOwn
import HandS.WordsExc
import HandS.HotCalls
import HandS.Wide
import HandS.ExcInit
import HandS.TryMany
import HandS.ExcField
import HandS.Style
import HandS.Comp
import KE.RegKSuper
import PySem.Challenge.RW_tagblocks_k00_errors_made_from_their_fie
set_option Elab.async false
set_option linter.all false
set_option maxRecDepth 100000
set_option maxHeartbeats 2000000
/-! Part A: an own error over a common error over ValueError; its __init__ says super().__init__('..') and stores its arguments. -/
namespace ErrA
open PySem PySem.W PySem.Calls PyProof.Rows PySem.HandSPX
/-- what the written part tells of the class at C; its __init__ at fI closes over the cell cc, its code object stands at cda -/
structure ErrTxt (P : Program) (K : Frag) (C fI cc cda : Addr) (qual : Str) (st : Stmt) : Prop where
  cls : ∃ nm q N bs bm sn sub ab col dd k0 k1 k2 k3 k5, K.lookup C = some (excClassObj nm q C N bs bm true sn sub ab col dd k0 k1 k2 k3 k5 "ValueError.__new__") ∧ refsVE bm = true
  sa : findIn K (.ref C) "__setattr__" = some (some (.builtin "object.__setattr__"))
  iC : findIn K (.ref C) "__init__" = some (some (.ref fI))
  tI : typeIn K (.ref fI) = some (.type "function")
  kC : keepIn K (.ref C) = true
  exC : subIn K (.ref C) (.type "BaseException") = some true
  veC : subIn K (.ref C) (.type "ValueError") = some true
  meC : mroIn K C (.ref C) = some true
  tyC : typeIn K (.ref C) = some (.type "type")
  sup : ks_superIn K C C "__init__" = some (some (.builtin "ValueError.__init__"))
  opq : nsIn K cStatics "thirdparty.any" = some none
  gS : nsIn K mainGlobals "super" = some none
  cell : ∃ cl cld csl, K.lookup cc = some ⟨cl, cld, .cell (some (.ref C)), csl⟩
  code : ∃ (ccl : Value) (cdd : Option Addr) (vs : Array Value) (ccs : Array (Option Value)) (file : Str) (tf : Tok), K.lookup cda = some ⟨ccl, cdd, .fields vs, ccs⟩ ∧ vs[2]? = some (.str file tf) ∧ ((P.main.file : Str) == file) = true
  rec_ : codeIn K (.ref cda) qual = true
  fn : ∃ (oc : Value) (od : Option Addr) (kV doc pm : Value) (an : Option Addr) (ct : Value) (osl : Array (Option Value)),
    K.lookup fI = some ⟨oc, od, .func (ksFn "__init__" qual (L2.defArgs st) (L2.defBody st) (L2.defScope st) .none kV doc pm an (.ref cda) ct cc), osl⟩
/-- what the module's names are over the base -/
structure Gnd (K : Frag) (mg : Str → Option Value) (base : Heap) : Prop where
  kin : K.In base
  glob : base.Ns mainGlobals mg
  blt : ∃ mb, base.Ns builtinsNs mb ∧ ∀ x : Str, x ≠ "__name__" → mb x = bootBuiltins x
  lim : base.NoLimit

section
variable {P : Program} {w : World} {K : Frag} {mg : Str → Option Value} {base : Heap} {C fI cc cda : Addr} {qual : Str} {st : Stmt} {A : Around} {E : Value → Shared → Prop}
theorem err_cls (T : ErrTxt P K C fI cc cda qual st) : ∃ cd, clsIn K C = some cd ∧ cd.hasDict = true ∧ refsVE cd.mro = true := by
  obtain ⟨nm, q, N, bs, bm, sn, sub, ab, col, dd, k0, k1, k2, k3, k5, hC, hbm⟩ := T.cls
  refine ⟨_, by unfold clsIn; rw [hC] <;> rfl, rfl, ?_⟩
  exact hbm
/-- the built-in __init__, bound to the exception at x, called -/
theorem bound_init (T : ErrTxt P K C fI cc cda qual st) {x t0 u : Addr} {rest : List Value} {h : Heap} {g : Array GenState} {d : Drawn} {t : Nat} {os : OsState} {Q : Value → Shared → Prop} (X : K.In h)
    (hx : h.get? x = some (excO C t0)) (hu : h.get? u = some (kxs_mw "ValueError.__init__" x)) (hl : rest.length ≤ sizeLine)
    (hq : ∀ h' t1, (∀ b o, b ≠ x → h.get? b = some o → h'.get? b = some o) → h'.get? x = some (excO C t1) → Q .none ⟨h', g, d, t, os⟩) :
    wpAny (model P w) A (call (.ref u) rest) Q E ⟨h, g, d, t, os⟩ := by
  obtain ⟨nm, q, N, bs, bm, sn, sub, ab, col, dd, k0, k1, k2, k3, k5, hC, hbm⟩ := T.cls
  have hC' := X _ _ hC
  refine wpAny_call (codeAny_of_tree ?_)
  show wpAny _ A.in1 (callAny (.ref u) ⟨rest, []⟩) _ _ _
  unfold callAny
  refine wpAny_bind (wpAny_load hu ?_)
  refine KFB.if_so rfl ?_
  refine wpAny_bind (check_bound_init PySem.F.excBase_ValueError.toExcCallFacts hC' hx rfl ?_)
  refine wpAny_bind (wpAny_pure (wpAny_pure ⟨plainId_quiet PySem.F.excBase_ValueError.init.plain _, codeAny_builtin PySem.F.excBase_ValueError.initEntry ?_⟩))
  exact exc_init_tree (cls := .ref C) (dv := none) (c2 := .none) (c3 := .none) (b4 := .bool false) hx hl fun h' k e _ => hq h' _ k e
end
end ErrA
namespace ErrA
open PySem PySem.W PySem.Calls PyProof.Rows PySem.HandSPX
section
variable {P : Program} {w : World} {K : Frag} {mg : Str → Option Value} {base : Heap} {C fI cc cda : Addr} {qual : Str} {st : Stmt} {A : Around} {E : Value → Shared → Prop}
/-- the frame of such an __init__ -/
abbrev eV (qual : Str) (st : Stmt) (L fI cda cc : Addr) : Env := ksEnv qual (L2.defScope st) L fI (.ref cda) cc
/-- what is asked of the text of such an __init__ -/
structure ErrScope (P : Program) (st : Stmt) (fl : List Str) (p0 p1 p2 p3 p4 : Pos) (msg : Str) (kk : Nat) : Prop where
  mc : ∀ (qual : Str) (L fI cda cc : Addr), ∃ pl : Sem Bool, eval (.Call (.Attribute (.Call (.Name "super" p0) [] [] p1) "__init__" p2) [.Constant (.str msg) kk p3] [] p4) (eV qual st L fI cda cc) = (do
      let ov ← attributeBase (.Call (.Name "super" p0) [] [] p1) "__init__" (eV qual st L fI cda cc) (eval (.Call (.Name "super" p0) [] [] p1) (eV qual st L fI cda cc))
      standAt p2.atName
      let (f, first) ← holding [ov] (getMethod ov "__init__" pl)
      callWith p4 f first (backTo p4 (starEach [.Constant (.str msg) kk p3] (eV qual st L fI cda cc))) [])
  kS : (L2.defScope st).names.lookup ("super" : Str) = some .globalImplicit
  kC : (L2.defScope st).names.lookup ("__class__" : Str) = some .free
  kL : ∀ f ∈ ("self" : Str) :: fl, (L2.defScope st).names.lookup f = some .local
  kF : (L2.defScope st).kind = .function
  kG : (L2.defScope st).isGenerator = false
  kO : (L2.defScope st).isCoroutine = false
  kN : ∀ y ∈ (L2.defScope st).names, y.2 ≠ .cell
  top : (P.main.scope.names.lookup ("super" : Str)).isSome = false
  par : ∃ ar : Arg, ((L2.defArgs st).posonlyargs ++ (L2.defArgs st).args).head? = some ar ∧ ar.arg = "self"
  dbg : ∀ f ∈ ("self" : Str) :: fl, (f == ("__debug__" : Str)) = false
/-- super().__init__('..') -/
theorem super_line {L x t0 : Addr} {m : Str → Option Value} {s : Shared} {fl : List Str} {p0 p1 p2 p3 p4 p5 : Pos} {msg : Str} {kk : Nat} {body : List Stmt} {Q : Flow → Shared → Prop} (T : ErrTxt P K C fI cc cda qual st) (S : ErrScope P st fl p0 p1 p2 p3 p4 msg kk) (G : Gnd K mg base)
    (kb : ∀ b o, base.get? b = some o → s.heap.get? b = some o) (hns : s.heap.Ns L m) (hm : m "self" = some (.ref x)) (hx : s.heap.get? x = some (excO C t0))
    (hq : ∀ h' tk t1, (∀ b o, b ≠ x → s.heap.get? b = some o → h'.get? b = some o) → h'.get? x = some (excO C t1) → Q .next { s with heap := h', toks := tk }) :
    _root_.PySem.wpAt (model P w) A (.func body (eV qual st L fI cda cc)) (exec (.Expr (.Call (.Attribute (.Call (.Name "super" p0) [] [] p1) "__init__" p2) [.Constant (.str msg) kk p3] [] p4) p5) (eV qual st L fI cda cc)) Q E s := by
  have X : K.In s.heap := G.kin.keeps kb
  have gS := mg_none_of G.kin G.glob T.gS
  obtain ⟨mb, hmb, hbt⟩ := G.blt
  obtain ⟨cd, hcd, hdct, hmro⟩ := err_cls T
  obtain ⟨oD, hD1, hD2⟩ : ∃ oD, K.lookup C = some oD ∧ oD.data = .cls cd := by
    obtain ⟨nm, q, N, bs, bm, sn, sub, ab, col, dd, k0, k1, k2, k3, k5, hC, hbm⟩ := T.cls
    unfold clsIn at hcd
    rw [hC] at hcd
    exact ⟨_, hC, by cases hcd; rfl⟩
  obtain ⟨cl, cld, csl, hcell⟩ := T.cell
  obtain ⟨ccl, cdd, vs, ccs, file, tf, hcode, hvs, hfile⟩ := T.code
  obtain ⟨oc, od, kV, doc, pm, an, ct, osl, hfn⟩ := T.fn
  obtain ⟨ar, har, harg⟩ := S.par
  obtain ⟨hh, g, d, t, os⟩ := s
  have hsup := T.sup
  unfold ks_superIn at hsup
  rw [hcd, Option.bind_some] at hsup
  have xC : x ≠ C := fun z => by
    rw [z, X _ _ hD1] at hx
    have z2 := congrArg Obj.data (Option.some.inj hx)
    rw [hD2] at z2
    cases z2
  have hint : interactive (eV qual st L fI cda cc) = false := by
    unfold interactive
    rw [show (eV qual st L fI cda cc).scope.kind = .function from S.kF]
    rfl
  obtain ⟨pl, hmc⟩ := S.mc qual L fI cda cc
  refine ks_wpAt_Expr_any (ks_wpAt_MethodCall (pl := pl) (ks_wpAt_super_base (env := eV qual st L fI cda cc) S.kS S.kC (by decide) rfl (X _ _ hfn) rfl har rfl (X _ _ hcode) rfl hvs hfile S.top ?_) hmc) hint
  refine ks_loadName_global S.kF S.kS (loadGlobal_builtin (env := eV qual st L fI cda cc) (G.glob.keeps kb) gS (hmb.keeps kb) ((hbt _ (by decide +kernel)).trans (by first | boot_by_name | rfl | kernel_rfl)) ⟨rfl, ?_⟩)
  refine wpAny_loadName_free S.kF S.kC rfl ⟨_, X _ _ hcell, rfl⟩ ?_
  rw [harg]
  refine wpAny_loadName_local S.kF (S.kL _ (List.mem_cons_self ..)) hns hm ?_
  refine ks_wpAny_isType_cls (X _ _ hD1) hD2 ⟨rfl, ?_⟩
  refine ks_wpAny_call_super (X _ _ hD1) hD2 hx rfl (fun c z => nomatch z) (looks_mroIn X T.meC) (fun h1 e1 k1 => ?_)
  have X1 : K.In h1 := X.keeps k1
  have hx1 := k1 _ _ hx
  have hI : Looks (model P w) h1 (isInstance (.ref x) (.type "ValueError")) true := (show Looks (model P w) h1 (typeOf (.ref x)) (.ref C) from fun A Q E s k q => wpAny_typeOf_ref (k _ _ hx1) q).andThen (looks_subIn X1 T.veC)
  have hM : Looks (model P w) h1 (mroOf (.ref C)) cd.mro := (looks_clsIn X1 hcd).andThen .now
  refine kxs_getMethod kxs_ValueError e1 (looks_opaque X1 T.opq) hM rfl X1 hsup hI xC (by decide) ?_
  have e2 : (h1.push (kxs_mw "ValueError.__init__" x)).get? h1.objs.size = some (kxs_mw "ValueError.__init__" x) := Heap.get?_push_size _ rfl
  have k2 : ∀ b o, h1.get? b = some o → (h1.push (kxs_mw "ValueError.__init__" x)).get? b = some o := fun b o e => Heap.get?_push_of_some _ e
  refine kxs_callWith (i := "ValueError.__init__") (x := x) rfl (evalArgs_plain (spliced_cons (Constant_str (pos := p3) (k := kk) (spliced_nil ⟨e2, ?_⟩))))
  refine bound_init T (X1.keeps k2) (k2 _ _ hx1) e2 (by show 1 ≤ sizeLine; rw [sizeLine_eq]; decide) (fun h' t1 k3 e3 => ?_)
  exact hq h' _ t1 (fun b o hb e => k3 b o hb (k2 _ _ (k1 _ _ e))) e3
end
end ErrA

namespace ErrA
open PySem PySem.W PySem.Calls PyProof.Rows PySem.HandSPX
/-- the names of an exception's own dict, the newest first -/
def lk (fs : List (Str × Value)) : Str → Option Value := fun y => fs.lookup y
theorem lk_more (f : Str) (v : Value) (fs : List (Str × Value)) : lk ((f, v) :: fs) = fun y => if y = f then some v else lk fs y := by
  funext y
  unfold lk
  by_cases h : y = f
  · subst h
    rw [if_pos rfl]
    simp [List.lookup]
  · rw [if_neg h]
    have e : (y == f) = false := by simpa using h
    simp [List.lookup, e]
theorem lk_in : ∀ fs : List (Str × Value), Within (lk fs) (fs.map (·.1))
  | [] => fun y h => absurd rfl h
  | (f, v) :: r => fun y h => by
    have h : lk ((f, v) :: r) y ≠ none := h
    rw [lk_more] at h
    have h : (if y = f then some v else lk r y) ≠ none := h
    by_cases e : y = f
    · rw [e]
      exact List.mem_cons_self ..
    · rw [if_neg e] at h
      exact List.mem_cons_of_mem _ (lk_in r y h)
/-- self.f = f, once for each name -/
inductive Sets : List Stmt → List Str → Prop
  | nil : Sets [] []
  | cons {f : Str} {q1 q2 q3 q4 : Pos} {r : List Stmt} {fl : List Str} (h : Sets r fl) : Sets (.Assign [.Attribute (.Name "self" q1) f q2] (.Name f q3) q4 :: r) (f :: fl)
section
variable {P : Program} {w : World} {K : Frag} {mg : Str → Option Value} {base : Heap} {C fI cc cda : Addr} {qual : Str} {st : Stmt} {A : Around} {E : Value → Shared → Prop}
theorem ldE {L : Addr} {m : Str → Option Value} {f : Str} {pos : Pos} {v : Value} {s : Shared} {M : Model} {Q : Value → Shared → Prop} (hk : (L2.defScope st).kind = .function) (hl : (L2.defScope st).names.lookup f = some .local) (hd : (f == ("__debug__" : Str)) = false)
    (hns : s.heap.Ns L m) (hm : m f = some v) (h : Q v s) : wpAny M A (eval (.Name f pos) (eV qual st L fI cda cc)) Q E s := wpAny_Name (wpAny_loadName_local hk hl hns hm h) hd
/-- further fields: the exception has its dict -/
theorem sets_old (T : ErrTxt P K C fI cc cda qual st) {L x t0 dx : Addr} {m : Str → Option Value} (val : Str → Value) (hk : (L2.defScope st).kind = .function) (hself : (L2.defScope st).names.lookup ("self" : Str) = some .local) (hm0 : m "self" = some (.ref x)) (xL : L ≠ dx) :
    ∀ {sts : List Stmt} {fl : List Str}, Sets sts fl → ∀ (fs : List (Str × Value)) (s : Shared) (Q : Flow → Shared → Prop), fs.length + fl.length ≤ 900 → (∀ f ∈ fl, (L2.defScope st).names.lookup f = some .local ∧ (f == ("__debug__" : Str)) = false ∧ m f = some (val f) ∧ findIn K (.ref C) f = some none) →
      K.In s.heap → K.lookup dx = none → s.heap.Ns L m → s.heap.get? x = some { cls := .ref C, dict := some dx, data := .fields #[.ref t0, .none, .none, .none, .bool false, .none] } → x ≠ dx → s.heap.Ns1 dx (lk fs) →
      (∀ h' tk, (∀ b o, b ≠ dx → s.heap.get? b = some o → h'.get? b = some o) → h'.get? x = some { cls := .ref C, dict := some dx, data := .fields #[.ref t0, .none, .none, .none, .bool false, .none] } → h'.Ns1 dx (lk ((fl.map fun f => (f, val f)).reverse ++ fs)) → Q .next { s with heap := h', toks := tk }) →
      wpAny (model P w) A (execs sts (eV qual st L fI cda cc)) Q E s := by
  intro sts fl hs
  induction hs with
  | nil =>
    intro fs s Q _ _ X _ hns hx hxd hd hq
    exact wpAny_execs_nil (hq s.heap s.toks (fun _ _ _ e => e) hx hd)
  | @cons f q1 q2 q3 q4 r fl hs ih =>
    intro fs s Q hl hf X hKd hns hx hxd hd hq
    obtain ⟨cd, hcd, hdct, hmro⟩ := err_cls T
    obtain ⟨f1, f2, f3, f4⟩ := hf f (List.mem_cons_self ..)
    refine wpAny_execs_cons (plainObj_wpAny_Assign_Attribute (ldE hk f1 f2 hns f3 (ldE hk hself (by decide) hns hm0 ?_)) (by rfl))
    have hd' := hd
    obtain ⟨oD, es, ep, hoD, _⟩ := id hd'
    obtain ⟨hp, g, d, t, os⟩ := s
    refine set_plain X (ox := { cls := .ref C, dict := some dx, data := .fields #[.ref t0, .none, .none, .none, .bool false, .none] }) (od := some oD) ⟨hx, rfl, rfl, hoD⟩ T.sa ?_
    refine PySem.OEX.osa_old X hx hd (lk_in fs) (by rw [List.length_map]; have : fs.length + (fl.length + 1) ≤ 900 := hl; omega) hcd hmro hdct f4 (fun h' tk' k hn => ?_)
    have hn' : h'.Ns1 dx (lk ((f, val f) :: fs)) := by rw [lk_more]; exact hn
    have kK : K.In h' := fun b o e => k b o (fun z => by rw [z, hKd] at e; cases e) (X b o e)
    refine ih ((f, val f) :: fs) _ Q (by have : fs.length + (fl.length + 1) ≤ 900 := hl; show fs.length + 1 + fl.length ≤ 900; omega) (fun g' hg' => hf g' (List.mem_cons_of_mem _ hg')) kK hKd ?_ (k _ _ hxd hx) hxd hn' (fun h2 tk2 k2 e2 n2 => ?_)
    · obtain ⟨o, es2, ep2, ho, r2⟩ := hns
      exact ⟨o, es2, ep2, k _ o xL ho, r2⟩
    · refine hq h2 tk2 (fun b o hb e => k2 b o hb (k b o hb e)) e2 ?_
      rw [List.map_cons, List.reverse_cons, List.append_assoc]
      exact n2
end
end ErrA

namespace ErrA
open PySem PySem.W PySem.Calls PyProof.Rows PySem.HandSPX
theorem look_mem {β : Type} {f : Str} {v : β} : ∀ {l : List (Str × β)}, (l.map (·.1)).Nodup → (f, v) ∈ l → l.lookup f = some v
  | [], _, h => nomatch h
  | (g, u) :: r, hn, h => by
    rw [List.map_cons, List.nodup_cons] at hn
    rcases List.mem_cons.mp h with e | e
    · cases e
      simp [List.lookup]
    · have ne : f ≠ g := fun z => hn.1 (by rw [← z]; exact List.mem_map.mpr ⟨_, e, rfl⟩)
      have e2 : (f == g) = false := by simpa using ne
      simp only [List.lookup, e2]
      exact look_mem hn.2 e
theorem zip_fst {α β : Type} : ∀ {xs : List α} {ys : List β}, xs.length = ys.length → (xs.zip ys).map (·.1) = xs
  | [], _, _ => by simp
  | _ :: _, [], h => by simp at h
  | x :: xs, y :: ys, h => by
    rw [List.zip_cons_cons, List.map_cons, zip_fst (by simpa using h)]
theorem zip_look {names : List Str} {us : List Value} (hn : names.Nodup) (hl : names.length = us.length) {f : Str} {v : Value} (h : (f, v) ∈ names.zip us) : (names.zip us).reverse.lookup f = some v := by
  refine look_mem ?_ (List.mem_reverse.mpr h)
  rw [List.map_reverse, zip_fst hl]
  exact List.pairwise_reverse.mpr (List.Pairwise.imp (fun h => Ne.symm h) hn)
/-- the parameter's value -/
def val (names : List Str) (us : List Value) (f : Str) : Value := ((names.zip us).reverse.lookup f).getD .none
theorem val_look {names : List Str} {us : List Value} (hl : names.length = us.length) {f : Str} (h : f ∈ names) (hn : names.Nodup) : (names.zip us).reverse.lookup f = some (val names us f) := by
  obtain ⟨p, hp, e⟩ : ∃ p ∈ names.zip us, p.1 = f := by
    have h2 : f ∈ (names.zip us).map (·.1) := by rw [zip_fst hl]; exact h
    obtain ⟨p, hp, e⟩ := List.mem_map.mp h2
    exact ⟨p, hp, e⟩
  obtain ⟨g, v⟩ := p
  cases e
  unfold val
  rw [zip_look hn hl hp]
  rfl
/-- the fields that are left, the newest first -/
def flds (names : List Str) (us : List Value) (fl : List Str) : List (Str × Value) := (fl.map fun f => (f, val names us f)).reverse
section
variable {P : Program} {w : World} {K : Frag} {mg : Str → Option Value} {base : Heap} {C fI cc cda : Addr} {qual : Str} {st : Stmt} {A : Around} {E : Value → Shared → Prop} {R : Result → Shared → Prop}
/-- the text of such an __init__ -/
structure ErrBody (P : Program) (st : Stmt) (f : Str) (fl : List Str) : Prop where
  ex : ∃ (p0 p1 p2 p3 p4 p5 q1 q2 q3 q4 : Pos) (msg : Str) (kk : Nat) (r : List Stmt), ErrScope P st (f :: fl) p0 p1 p2 p3 p4 msg kk ∧ Sets r fl ∧
    L2.defBody st = .Expr (.Call (.Attribute (.Call (.Name "super" p0) [] [] p1) "__init__" p2) [.Constant (.str msg) kk p3] [] p4) p5 :: .Assign [.Attribute (.Name "self" q1) f q2] (.Name f q3) q4 :: r
  nd : (("self" : Str) :: f :: fl).Nodup
  bind : ∀ (qual : Str) (kV doc pm : Value) (an : Option Addr) (ct : Value) (cda cc : Addr) (us : List Value), us.length = fl.length + 2 →
    bindArgs (ksFn "__init__" qual (L2.defArgs st) (L2.defBody st) (L2.defScope st) .none kV doc pm an (.ref cda) ct cc) ⟨us, []⟩ = pure ((("self" : Str) :: f :: fl).zip us)
  few : fl.length ≤ 100
/-- what such an __init__ leaves of a fresh exception at x -/
structure ErrEnd (h h' : Heap) (x C dx : Addr) (fs : List (Str × Value)) : Prop where
  keep : ∀ b o, b ≠ x → h.get? b = some o → h'.get? b = some o
  obj : ∃ t0 : Addr, h'.get? x = some { cls := .ref C, dict := some dx, data := .fields #[.ref t0, .none, .none, .none, .bool false, .none] }
  dbig : h.objs.size ≤ dx
  dne : dx ≠ x
  ns : h'.Ns1 dx (lk fs)
theorem err_init {f : Str} {fl : List Str} (T : ErrTxt P K C fI cc cda qual st) (B : ErrBody P st f fl) (G : Gnd K mg base) {x t0 : Addr} {vs : List Value} {s : Shared} (noF : ∀ g ∈ f :: fl, findIn K (.ref C) g = some none)
    (kb : ∀ b o, base.get? b = some o → s.heap.get? b = some o) (hx : s.heap.get? x = some (excO C t0)) (hnx : K.lookup x = none) (hroom : A.depth < recursionLimit) (hl : vs.length = fl.length + 1)
    (hq : ∀ h' tk dx, ErrEnd s.heap h' x C dx (flds (("self" : Str) :: f :: fl) (.ref x :: vs) (f :: fl)) → R (.ok (.ret .none)) { s with heap := h', toks := tk }) :
    codeAny (model P w) A (.call (.ref fI) ⟨.ref x :: vs, []⟩) R s := by
  obtain ⟨p0, p1, p2, p3, p4, p5, q1, q2, q3, q4, msg, kk, r, S, hs, hbody⟩ := B.ex
  obtain ⟨oc, od, kV, doc, pm, an, ct, osl, hfn⟩ := id T.fn
  obtain ⟨cd, hcd, hdct, hmro⟩ := err_cls T
  have X : K.In s.heap := G.kin.keeps kb
  have hus : (("self" : Str) :: f :: fl).length = (Value.ref x :: vs).length := by simp [hl]
  have look : ∀ g ∈ ("self" : Str) :: f :: fl, ((("self" : Str) :: f :: fl).zip (Value.ref x :: vs)).reverse.lookup g = some (val (("self" : Str) :: f :: fl) (.ref x :: vs) g) := fun g hg => val_look hus hg B.nd
  have hself : ((("self" : Str) :: f :: fl).zip (Value.ref x :: vs)).reverse.lookup ("self" : Str) = some (.ref x) := zip_look B.nd hus (by rw [List.zip_cons_cons]; exact List.mem_cons_self ..)
  refine ks_codeAny_call_defAt (fd := ksFn "__init__" qual (L2.defArgs st) (L2.defBody st) (L2.defScope st) .none kV doc pm an (.ref cda) ct cc) (body := L2.defBody st) (binds := (("self" : Str) :: f :: fl).zip (Value.ref x :: vs)) hroom (X _ _ hfn) rfl (G.lim.keeps kb) (codeRec_of X T.rec_) rfl
    (BindsTo.of_eq (B.bind _ _ _ _ _ _ _ _ _ (by simp [hl]))) S.kN (fun y hy => ?_) (fun h1 hns k1 => ?_) S.kO S.kG S.kF
  · obtain ⟨n, v⟩ := y
    exact S.kL n (List.of_mem_zip hy).1
  have hxL : s.heap.objs.size ≠ x := Nat.ne_of_gt (Heap.lt_size hx)
  show _root_.PySem.wpAt _ _ (.func (L2.defBody st) (eV qual st s.heap.objs.size fI cda cc)) (execs (L2.defBody st) (eV qual st s.heap.objs.size fI cda cc)) _ _ _
  rw [hbody]
  have L1 : s.heap.objs.size < h1.objs.size := hns.lt
  refine ks_wpAt_execs_cons (super_line T S G (fun b o e => k1 b o (kb b o e)) hns hself (k1 _ _ hx) (fun h2 tk2 t2 k2 e2 => wpAt_of_wpAny ?_))
  have keep2 : ∀ b o, b ≠ x → s.heap.get? b = some o → h2.get? b = some o := fun b o hb e => k2 b o hb (k1 b o e)
  have hns2 : h2.Ns s.heap.objs.size (fun y => ((("self" : Str) :: f :: fl).zip (Value.ref x :: vs)).reverse.lookup y) := by
    obtain ⟨o, es, ep, ho, hr⟩ := hns
    exact ⟨o, es, ep, k2 _ o hxL ho, hr⟩
  have X2 : K.In h2 := fun b o e => keep2 b o (fun z => by rw [z, hnx] at e; cases e) (X b o e)
  refine wpAny_execs_cons (plainObj_wpAny_Assign_Attribute (ldE S.kF (S.kL _ (by simp)) (S.dbg _ (by simp)) hns2 (look f (by simp)) (ldE S.kF (S.kL _ (by simp)) (by decide) hns2 hself ?_)) (by rfl))
  refine set_plain X2 (ox := excO C t2) (od := none) ⟨e2, rfl, rfl, trivial⟩ T.sa ?_
  refine exc_osa X2 e2 hcd hmro hdct (noF f (by simp)) (fun h3 tk3 dx k3 dn dne hx3 hn3 => ?_)
  have L2' : s.heap.objs.size < h2.objs.size := hns2.lt
  have dL : s.heap.objs.size ≠ dx := Nat.ne_of_lt (Nat.lt_of_lt_of_le L2' dn)
  have hK3 : K.In h3 := fun b o e => k3 b o (fun z => by rw [z, hnx] at e; cases e) (X2 b o e)
  have hKd : K.lookup dx = none := by
    cases e : K.lookup dx with
    | none => rfl
    | some o => exact absurd (Nat.lt_of_lt_of_le (Heap.lt_size (X2 _ _ e)) dn) (Nat.lt_irrefl _)
  have hns3 : h3.Ns s.heap.objs.size (fun y => ((("self" : Str) :: f :: fl).zip (Value.ref x :: vs)).reverse.lookup y) := by
    obtain ⟨o, es, ep, ho, hr⟩ := hns2
    exact ⟨o, es, ep, k3 _ o hxL ho, hr⟩
  have hn3' : h3.Ns1 dx (lk [(f, val (("self" : Str) :: f :: fl) (.ref x :: vs) f)]) := by rw [lk_more]; exact hn3
  refine sets_old T (val (("self" : Str) :: f :: fl) (.ref x :: vs)) S.kF (S.kL _ (by simp)) hself dL hs [(f, _)] _ _ (by have := B.few; show 1 + fl.length ≤ 900; omega)
    (fun g hg => ⟨S.kL g (by simp [hg]), S.dbg g (by simp [hg]), look g (by simp [hg]), noF g (by simp [hg])⟩) hK3 hKd hns3 hx3 (Ne.symm dne) hn3' (fun h4 tk4 k4 e4 n4 => ?_)
  refine hq h4 tk4 dx ⟨fun b o hb e => ?_, ⟨_, e4⟩, Nat.le_of_lt (Nat.lt_of_lt_of_le L2' dn), dne, ?_⟩
  · have bs : b < s.heap.objs.size := Heap.lt_size e
    exact k4 b o (fun z => absurd (Nat.lt_of_lt_of_le (Nat.lt_trans bs L2') dn) (by rw [z]; exact Nat.lt_irrefl _)) (k3 b o hb (keep2 b o hb e))
  · unfold flds
    rw [List.map_cons, List.reverse_cons]
    exact n4
end
end ErrA

namespace ErrA
open PySem PySem.W PySem.Calls PyProof.Rows PySem.HandSPX
theorem val_zip {names : List Str} {us : List Value} : ∀ {fl : List Str} {vs : List Value}, fl.length = vs.length → (∀ p ∈ fl.zip vs, val names us p.1 = p.2) → (fl.map fun f => (f, val names us f)) = fl.zip vs
  | [], _, _, _ => by simp
  | _ :: _, [], h, _ => by simp at h
  | f :: fl, v :: vs, h, hv => by
    rw [List.map_cons, List.zip_cons_cons, val_zip (by simpa using h) (fun p hp => hv p (by rw [List.zip_cons_cons]; exact List.mem_cons_of_mem _ hp)), hv (f, v) (by rw [List.zip_cons_cons]; exact List.mem_cons_self ..)]
theorem flds_zip {n0 : Str} {x : Value} {fl : List Str} {vs : List Value} (hn : (n0 :: fl).Nodup) (hl : fl.length = vs.length) : flds (n0 :: fl) (x :: vs) fl = (fl.zip vs).reverse := by
  unfold flds
  rw [val_zip hl fun p hp => ?_]
  obtain ⟨f, v⟩ := p
  unfold val
  rw [zip_look (v := v) hn (by simp [hl]) (by rw [List.zip_cons_cons]; exact List.mem_cons_of_mem _ hp)]
  rfl
section
variable {P : Program} {w : World} {K : Frag} {mg : Str → Option Value} {base : Heap} {C fI cc cda : Addr} {qual : Str} {st : Stmt} {A : Around} {E : Value → Shared → Prop} {R : Result → Shared → Prop}
/-- a made exception -/
structure ErrMade (h h' : Heap) (e C d : Addr) (fs : List (Str × Value)) : Prop where
  keep : ∀ b o, h.get? b = some o → h'.get? b = some o
  new : h.objs.size ≤ e
  obj : ∃ t0 : Addr, h'.get? e = some { cls := .ref C, dict := some d, data := .fields #[.ref t0, .none, .none, .none, .bool false, .none] }
  dbig : h.objs.size ≤ d
  dne : d ≠ e
  ns : h'.Ns1 d (lk fs)
theorem err_made {f : Str} {fl : List Str} (T : ErrTxt P K C fI cc cda qual st) (B : ErrBody P st f fl) (G : Gnd K mg base) {vs : List Value} {s : Shared} (noF : ∀ g ∈ f :: fl, findIn K (.ref C) g = some none)
    (kb : ∀ b o, base.get? b = some o → s.heap.get? b = some o) (hroom : A.depth + 1 < recursionLimit) (hl : vs.length = fl.length + 1)
    (hq : ∀ h' tk e d, ErrMade s.heap h' e C d (((f :: fl).zip vs).reverse) → R (.ok (.ret (.ref e))) { s with heap := h', toks := tk }) :
    codeAny (model P w) A (.call (.ref C) ⟨vs, []⟩) R s := by
  obtain ⟨nm, q, N, bs, bm, sn, sub, ab, col, dd, k0, k1, k2, k3, k5, hC, hbm⟩ := T.cls
  have X : K.In s.heap := G.kin.keeps kb
  obtain ⟨hp, g, dr, tk, os⟩ := s
  have k : ∀ b o, hp.get? b = some o → ((hp.push (kdv_tup vs)).push (excO C hp.objs.size)).get? b = some o := fun b o e => Heap.get?_push_of_some _ (Heap.get?_push_of_some _ e)
  have hget : ((hp.push (kdv_tup vs)).push (excO C hp.objs.size)).get? (hp.objs.size + 1) = some (excO C hp.objs.size) := by heap_get
  have hnx : K.lookup (hp.objs.size + 1) = none := by
    cases e : K.lookup (hp.objs.size + 1) with
    | none => rfl
    | some o =>
      have z : hp.get? (hp.objs.size + 1) = some o := X _ _ e
      exact absurd (Nat.lt_of_succ_lt (Heap.lt_size z)) (Nat.lt_irrefl _)
  have hsz : vs.length ≤ sizeLine := by
    rw [hl, sizeLine_eq]
    have := B.few
    omega
  refine call_own PySem.F.excBase_ValueError (fun Y => refsVE_contains Y bm hbm) (X _ _ hC) (looks_findIn X T.iC) (fun self => bind_fn X self T.tI) hsz ?_
  refine err_init (s := ⟨(hp.push (kdv_tup vs)).push (excO C hp.objs.size), g, dr, tk, os⟩) T B G noF (fun b o e => k b o (kb b o e)) hget hnx ?_ hl fun h' tk' dx ⟨k', hx, dn, dne, hns⟩ => ?_
  · show A.depth + 1 < recursionLimit
    exact hroom
  · rw [flds_zip B.nd (by simp [hl])] at hns
    have old : ∀ b o, hp.get? b = some o → h'.get? b = some o := fun b o e => k' b o (Nat.ne_of_lt (Nat.lt_succ_of_lt (Heap.lt_size e))) (k b o e)
    have z : hp.objs.size + 1 + 1 ≤ dx := by
      first
        | (simpa only [Heap.size_push] using dn)
        | exact dn
    exact ⟨rfl, hq h' tk' (hp.objs.size + 1) dx ⟨old, Nat.le_succ _, hx, Nat.le_trans (Nat.le_trans (Nat.le_succ _) (Nat.le_succ _)) z, dne, hns⟩⟩
end
end ErrA

namespace L2
open PySem PySem.Spec PyProof.Rows
theorem paired_snoc_k {α β : Type} {F : α → β → Prop} {a : α} {b : β} (r : F a b) : ∀ {xs : List α} {ys : List β}, Paired F xs ys → Paired F (xs ++ [a]) (ys ++ [b])
  | _, _, .nil => .cons r .nil
  | _, _, .cons q t => .cons q (paired_snoc_k r t)
theorem paired_rev_k {α β : Type} {F : α → β → Prop} : ∀ {xs : List α} {ys : List β}, Paired F xs ys → Paired F xs.reverse ys.reverse
  | _, _, .nil => .nil
  | _, _, .cons q t => by
    rw [List.reverse_cons, List.reverse_cons]
    exact paired_snoc_k q (paired_rev_k t)
theorem kv_zip : ∀ (fl : List Str) {vs : List V} {us : List Value}, Vals vs us → KV (fl.zip vs) (fl.zip us)
  | [], _, _, _ => by simp; exact .nil
  | _ :: _, _, _, .nil => by simp; exact .nil
  | f :: fl, _, _, .cons r t => by
    rw [List.zip_cons_cons, List.zip_cons_cons]
    exact .cons ⟨rfl, r⟩ (kv_zip fl t)
theorem kv_look (g : Str) : ∀ {l : List (Str × V)} {m : List (Str × Value)}, KV l m → RelO (l.lookup g) (ErrA.lk m g)
  | _, _, .nil => True.intro
  | (f, y) :: l, (f', u) :: m, .cons ⟨e, r⟩ t => by
    have e : f = f' := e
    subst e
    rw [ErrA.lk_more]
    have ih := kv_look g t
    by_cases h : g = f
    · subst h
      simp only [List.lookup, beq_self_eq_true]
      rw [if_pos True.intro]
      exact r
    · have e2 : (g == f) = false := by simpa using h
      simp only [List.lookup, e2]
      rw [if_neg h]
      exact ih
section
variable {X : Cx} {C fI cc cda : Addr} {qual : Str} {st : Stmt} {f : Str} {fl : List Str}
/-- C(e, ..): behind the arguments, for every new d: the error with its own dict at d -/
def tMkErr (C : Addr) (f : Str) (fl : List Str) (ta : TA) : St → Hp → XK → Prop := fun σ H Q => ta σ H fun vs H1 => vs.length = fl.length + 1 ∧ ∀ d, H1 d = none → Q (.ref C) (some d) (upd H1 d (.xd ((f :: fl).zip vs).reverse))
theorem pmk_err {a : Expr} {as : List Expr} {ta : TA} {n : Str} {p pos : Pos} {k : Nat} (T : ErrA.ErrTxt X.prog X.K C fI cc cda qual st) (B : ErrA.ErrBody X.prog st f fl) (noF : ∀ g ∈ f :: fl, PySem.W.findIn X.K (.ref C) g = some none) (hr : Room k X.A) (hm : X.mg n = some (.ref C)) (ha : PA X (a :: as) ta) (hg : Gl X n := by rfl)
    (hdb : (n == ("__debug__" : Str)) = false := by decide)
    (he : starEach (a :: as) X.env = (false, eval a X.env) :: starEach as X.env := by rfl) (hpl : (backTo pos (starEach as X.env)).any (·.1) = false := by rfl) :
    PMk X (.Call (.Name n p) (a :: as) [] pos) (tMkErr C f fl ta) := by
  intro pins s σ H Q I h
  refine wpAny_Call_Name_kw (ld_glob I hg hm ?_ hdb)
  refine PySem.W.callWith_K (h₀ := X.base) I.ok.mod.kin T.kC (thn (ha.run pos pins s σ H _ I h) fun us s1 hh => ?_) he hpl
  obtain ⟨vs, H1, I1, r1, hl, q1⟩ := hh
  refine ⟨I1.kIn, ?_⟩
  show wpAny _ _ (call (.ref C) us) _ _ _
  have hbk := I1.bk
  have hlu : us.length = fl.length + 1 := by rw [← Paired.length r1]; exact hl
  obtain ⟨hp, g, dr, tk, os⟩ := s1
  refine wpAny_call (ErrA.err_made T B ⟨I1.mod.kin, I1.mod.glob, I1.mod.blt, I1.mod.nolimit⟩ noF hbk (by have := hr.dp; omega) hlu fun h' tk' e d M => ?_)
  show MkP X pins σ Q (.ref e) ⟨h', g, dr, tk', os⟩
  obtain ⟨t0, hoe⟩ := M.obj
  have hns := M.ns
  obtain ⟨G', g1, g2⟩ := restrict h' fun b => decide (b ≠ e)
  have gk : ∀ b, b ≠ e → G'.get? b = h'.get? b := fun b hb => g1 b (decide_eq_true hb)
  have ge : G'.get? e = none := g2 e (by simp)
  have old : ∀ b o, hp.get? b = some o → G'.get? b = some o := fun b o q => (gk b (Nat.ne_of_lt (Nat.lt_of_lt_of_le (Heap.lt_size q) M.new))).trans (M.keep b o q)
  have ob : ObjOk X.prog X.w (upd H1 d (.xd ((f :: fl).zip vs).reverse)) G' d (.xd ((f :: fl).zip vs).reverse) :=
    ⟨_, hns.at (fun o q => (gk d M.dne).trans q), fun g => kv_look g (paired_rev_k (kv_zip (f :: fl) r1))⟩
  have J : Inv X pins σ (upd H1 d (.xd ((f :: fl).zip vs).reverse)) ⟨G', g, dr, tk', os⟩ := I1.laid (t' := tk') old M.dbig ob
  refine ⟨e, _, _, ⟨G', g, dr, tk', os⟩, _, .ref C, some d, rfl, J, fun b o q => ?_, ge, hoe, ⟨rfl, rfl⟩, rfl, rfl, ?_, rfl, I1.bare, raises_own T.exC T.tyC, q1 d (I1.hok.fresh M.dbig)⟩
  · by_cases hb : b = e
    · have q' : G'.get? b = some o := q
      rw [hb, ge] at q'; cases q'
    · exact (gk b hb).symm.trans q
  · rw [upd_ne (Ne.symm M.dne)]
    exact I1.hok.fresh M.new
/-- raise C(e, ..) -/
def tRaiseErr (C : Addr) (f : Str) (fl : List Str) (W : WX) (ta : TA) : TS := fun _ σ H => tMkErr C f fl ta σ H fun cls d H' => W cls d σ H'
theorem ps_raiseErr {a : Expr} {as : List Expr} {ta : TA} {W : WX} {n : Str} {p pos pos2 : Pos} {k : Nat} (hc : X.calm = true) (T : ErrA.ErrTxt X.prog X.K C fI cc cda qual st) (B : ErrA.ErrBody X.prog st f fl) (noF : ∀ g ∈ f :: fl, PySem.W.findIn X.K (.ref C) g = some none) (hr : Room k X.A) (hm : X.mg n = some (.ref C)) (tk : Takes X W) (ha : PA X (a :: as) ta) (hg : Gl X n := by rfl)
    (hdb : (n == ("__debug__" : Str)) = false := by decide)
    (he : starEach (a :: as) X.env = (false, eval a X.env) :: starEach as X.env := by rfl) (hpl : (backTo pos (starEach as X.env)).any (·.1) = false := by rfl) :
    PS X (.Raise (some (.Call (.Name n p) (a :: as) [] pos)) none pos2) (tRaiseErr C f fl W ta) := ps_raise hc tk (pmk_err T B noF hr hm ha hg hdb he hpl)
end
end L2

set_option Elab.async false
set_option linter.all false
set_option maxRecDepth 100000
set_option maxHeartbeats 2000000
/-! Part B: several clauses «except C as n» -/
namespace L2
open PySem PySem.Spec PyProof.Rows
/-- a clause's class and its suite's reading -/
abbrev Cl := Value × (Addr → Value → Option Addr → TS)
/-- the ends of a suite: the name in slot i is gone behind it -/
def goneD (i : Nat) (D : Ends) : Ends := { nx := fun τ G => D.nx (τ.set i none) G, rt := D.rt, bk := fun τ G => D.bk (τ.set i none) G, ct := fun τ G => D.ct (τ.set i none) G }
/-- what the clauses wish, one behind the other; all of them store in slot i -/
def wClauses (K : PySem.W.Frag) (i : Nat) (Wo : WX) (D : Ends) : List Cl → WX
  | [] => Wo
  | (c, ts) :: more => fun cls d τ G => ∃ yes, PySem.W.exmOne K cls c = some yes ∧ (yes = true → ∀ e, G e = none → ts e cls d (goneD i D) (τ.set i (some (.ref e))) G) ∧ (yes = false → wClauses K i Wo D more cls d τ G)
inductive Clauses (X : Cx) (n : Str) : List ExceptHandler → List Cl → Prop
  | nil : Clauses X n [] []
  | cons {x : Str} {c : Value} {ts : Addr → Value → Option Addr → TS} {s0 : Stmt} {ss : List Stmt} {pa pb : Pos} {hs : List ExceptHandler} {l : List Cl} (nm : Names X x c)
      (su : ∀ (e : Addr) (oe : Obj) (cls : Value) (d : Option Addr) (pn : List (Addr × Obj)), Zc cls d oe → (∃ vs, oe.data = .fields vs) → PSs (X.suite e ((e, oe) :: pn)) (s0 :: ss) (ts e cls d)) (more : Clauses X n hs l) :
      Clauses X n (.ExceptHandler (some (.Name x pa)) (some n) (s0 :: ss) pb :: hs) ((c, ts) :: l)
section
variable {X : Cx} {n : Str} {i : Nat} {body : List Stmt} {hd : ExceptHandler} {hs : List ExceptHandler} {l : List Cl} {pos : Pos} {tb : WX → TS} {Wo : WX}
/-- an end of the suite: the name goes, the frame is ours again -/
theorem suite_end {pins : List (Addr × Obj)} {D : Ends} {ok : X.Ok} {e : Addr} {q : Addr × Obj} {fl : Flow} {s6 : Shared} {pb : Pos} (hN : X.N.Nodup) (hi : X.N[i]? = some n) (hln : X.env.kindOf n = some .local)
    (h : SP (X.suite e (q :: (X.pn ++ pins))) [] (goneD i D) fl s6) :
    wpAny (model X.prog X.w) X.A (do bindName X.env n .none; unbindBehindTheSuite X.env n pb) (fun _ s7 => SP X pins D fl s7) X.xe s6 := by
  cases fl with
  | ret u =>
    obtain ⟨v, τ, G, J, r, z⟩ := h
    refine gone_ok (J.unsuite ok) hN hi hln fun s7 J7 => ?_
    exact ⟨v, _, _, J7, r, z⟩
  | next =>
    obtain ⟨τ, G, J, z⟩ := h
    refine gone_ok (J.unsuite ok) hN hi hln fun s7 J7 => ?_
    exact ⟨_, _, J7, z⟩
  | brk =>
    obtain ⟨τ, G, J, z⟩ := h
    refine gone_ok (J.unsuite ok) hN hi hln fun s7 J7 => ?_
    exact ⟨_, _, J7, z⟩
  | cont =>
    obtain ⟨τ, G, J, z⟩ := h
    refine gone_ok (J.unsuite ok) hN hi hln fun s7 J7 => ?_
    exact ⟨_, _, J7, z⟩
theorem ps_try_clauses (hst : X.stack = X.env :: X.outer) (hfr : X.env.frame = some X.env.locals) (hN : X.N.Nodup) (hi : X.N[i]? = some n) (hln : X.env.kindOf n = some .local) (tk : Takes X Wo)
    (hb : ∀ (W : WX) (pn : List (Addr × Obj)) (xe : Value → Shared → Prop), Takes (X.tr pn xe) W → PassesOwn (model X.prog X.w) X.A X.env xe → PSs (X.tr pn xe) body (tb W))
    (hh : Clauses X n (hd :: hs) l) : PS X (.Try body (hd :: hs) [] [] pos) (fun D σ H => tb (wClauses X.K i Wo D l) D σ H) := by
  constructor
  intro pins s σ H D I start
  have ok := I.ok
  have frs_ : X.A.frames = some (X.env :: X.outer) := ok.frames.trans (by rw [hst])
  refine wpAny_Try_except ?_
  have run := (hb (wClauses X.K i Wo D l) (X.pn ++ pins) (fun ev t1 => wpAny (model X.prog X.w) X.A (noteFrame ev X.env) (fun _ t2 => wpAny (model X.prog X.w) X.A (setFlight ev none)
    (fun _ t3 => wpAny (model X.prog X.w) X.A (handleBy ev X.env (hd :: hs)) (SP X pins D) X.xe t3) X.xe t2) X.xe t1) (fun u t xx => ?_) PassesOwn.looking).run [] s σ H D (I.toTry _) start
  · refine wpAny_mono run (fun f t z => ?_) (fun ev t z => z)
    cases f with
    | ret u =>
      obtain ⟨v, τ, G, J, r, q⟩ := z
      exact ⟨v, τ, G, J.ofTry ok, r, q⟩
    | next =>
      obtain ⟨τ, G, J, q⟩ := z
      exact wpAny_execs_nil ⟨τ, G, J.ofTry ok, q⟩
    | brk =>
      obtain ⟨τ, G, J, q⟩ := z
      exact ⟨τ, G, J.ofTry ok, q⟩
    | cont =>
      obtain ⟨τ, G, J, q⟩ := z
      exact ⟨τ, G, J.ofTry ok, q⟩
  obtain ⟨e, B, t0, pins0, τ, G, cls, d, rfl, J0, ground, up, sky, ne, eos, bare, wish⟩ := xx
  have J : Inv X pins τ G t0 := J0.ofTry ok
  have sky2 : Sky B (X.env :: X.outer) e (Zc cls d) X.env.locals t.heap := by
    rw [← hst]
    exact sky
  show wpAny (model X.prog X.w) X.A (noteFrame (.ref e) X.env) _ _ _
  refine Sky.land Zc.steady frs_ hfr sky2 fun g3 fly3 up3 => ?_
  have up03 := up.trans up3
  have J3 : Inv X pins τ G { t with heap := g3 } := J.landed ground fly3.1 up03 eos bare
  obtain ⟨o3, v3, get3, z3, d3⟩ := fly3.there
  have out : e ∉ frs (X.env :: X.outer) := fun m => by
    obtain ⟨_, o', e', no⟩ := fly3.2.2.1.mem m
    rw [get3] at e'
    cases e'
    exact no _ d3
  have outL : e ≠ X.env.locals := fun z => out (List.mem_filterMap.mpr ⟨X.env, List.mem_cons_self, by rw [hfr, z]⟩)
  have outF : e ∉ X.fs := fun m => by
    obtain ⟨env', he', q⟩ := List.mem_filterMap.mp m
    exact out (List.mem_filterMap.mpr ⟨env', List.mem_cons_of_mem _ he', q⟩)
  have S3 := J3.suite get3 d3 ne outL outF
  have main : ∀ {hs' : List ExceptHandler} {l' : List Cl}, Clauses X n hs' l' → wClauses X.K i Wo D l' cls d τ G → wpAny (model X.prog X.w) X.A (handleBy (.ref e) X.env hs') (SP X pins D) X.xe { t with heap := g3 } := by
    intro hs' l' c
    induction c with
    | nil =>
      intro w
      refine wpAny_handleBy_nil ?_
      obtain ⟨_, _, _, oe, vs, T, oT, ts', he, _, hdt, h1, _⟩ := id fly3
      have fin : wpAny (model X.prog X.w) X.A (setFlight (.ref e) X.env.frame) (fun _ t4 => wpAny (model X.prog X.w) X.A (throw (.ref e) : Sem Flow) (SP X pins D) X.xe t4) X.xe { t with heap := g3 } := by
        rw [hfr]
        refine HandSPX.setFlight_upZ fly3 fun g4 held4 up4 => wpAny_throw (tk _ _ ⟨e, B, t0, pins, τ, G, cls, d, rfl, J, ground, up03.trans up4, .inr (.inr ?_), ne, eos, bare, w⟩)
        rw [hst]
        exact held4
      unfold PySem.passOn
      refine wpAny_bind (wpAny_field he hdt h1 ?_)
      have notNone : ¬ ((Value.ref T == Value.none) = true) := by simp
      rw [if_neg notNone]
      first
        | exact wpAny_bind fin
        | exact wpAny_bind (wpAny_pure (wpAny_bind fin))
    | @cons x c ts s0 ss pa pb hs2 l2 nm su more ih =>
      intro w
      obtain ⟨yes, hy, w1, w0⟩ := w
      refine wpAny_handleBy_cons (codeAny_handlers_test ?_) (by intro q; cases q)
      have ty : PySem.W.Looks (model X.prog X.w) g3 (typeOf (.ref e)) cls := fun A Q E s k q => wpAny_typeOf_ref (k _ _ get3) (by rw [z3.1]; exact q)
      have mt := PySem.W.exm_one (M := model X.prog X.w) (J3.kIn) ty hy
      have named : ∀ {Q : Value → Shared → Prop} {E : Value → Shared → Prop}, Q c { t with heap := g3 } → wpAny (model X.prog X.w) (X.A.mark (some (.ref e))) (eval (.Name x pa) X.env) Q E { t with heap := g3 } := by
        intro Q E q
        obtain ⟨hg, hdbg, inMod | ⟨notIn, isB, notName⟩⟩ := nm
        · exact ld_glob (X := X.suite e ((e, o3) :: (X.pn ++ pins))) S3 hg inMod q hdbg
        · exact ld_blt (X := X.suite e ((e, o3) :: (X.pn ++ pins))) S3 hg notIn isB q notName hdbg
      refine named (mt.here ?_)
      cases yes with
      | false => exact ih (w0 rfl)
      | true =>
        refine codeAny_handlers_suite_as (HandSPX.lands_againZ fly3 fun g4 fly4 up4 => ?_)
        have J4 : Inv X pins τ G { t with heap := g4 } := J.landed ground fly4.1 (up03.trans up4) eos bare
        obtain ⟨o4, v4, get4, z4, d4⟩ := fly4.there
        refine store_ok (X := X.suite e ((e, o4) :: (X.pn ++ pins))) (v := .ref e) (J4.suite get4 d4 ne outL outF) hN hi (.inl hln) rfl (fun s5 S5 => ?_) (.inr hln)
        refine wpAny_mono ((su e o4 cls d (X.pn ++ pins) z4 ⟨_, d4⟩).run [] s5 _ G _ S5 (w1 rfl e ne)) (fun fl s6 z => ?_) (fun _ _ z => False.elim z)
        have fin := suite_end (ok := ok) (pb := pb) hN hi hln z
        cases fl <;> exact fin
  exact main hh wish
end
end L2

set_option Elab.async false
set_option linter.all false
set_option maxRecDepth 100000
set_option maxHeartbeats 2000000
/-! Part C: a def that gets the handled exception, called in an except suite; isinstance of it -/
namespace L2
open PySem PySem.Spec PyProof.Rows
/-- a promise that speaks of the handled exception: its address, its class, its own dict -/
abbrev SpP := Addr → Value → Option Addr → Sp
structure FnPin (P : Program) (w : World) (K : PySem.W.Frag) (mg : Str → Option Value) (base : Heap) (k : Nat) (f : Addr) (fd : FuncData) (ps : List Str) (sp : SpP) : Prop where
  len : ∀ a cls d vs H Q E, sp a cls d vs H Q E → vs.length = ps.length
  run : ∀ (A : Around) (outer : List Env) (s : Shared) (H : Hp) (args : Args) (us : List Value) (vs : List V) (Q : VK) (E : XK) (p : Addr × Obj) (cls : Value) (d : Option Addr), L2H.RoomH k A → L2H.PinOk outer H s p → Zc cls d p.2 → (∃ xs, p.2.data = .fields xs) → Env0 P w K mg base A outer s H → BindsTo s fd args (ps.zip us) → Vals vs us → sp p.1 cls d vs H Q E →
    codeAny (model P w) A (.call (.ref f) args) (CR CX0 outer P w H s Q E) s
section
variable {P : Program} {w : World} {K : PySem.W.Frag} {mg : Str → Option Value} {base : Heap}
theorem Fun.okPin {x qual : Str} {st : Stmt} {f : Addr} {fd : FuncData} {N ps : List Str} {k : Nat} {sp : SpP} (F : Fun K x qual st f fd) (S : FnScope N ps (defScope st)) (len : ∀ a cls d vs H Q E, sp a cls d vs H Q E → vs.length = ps.length)
    (hbody : ∀ (cdv : Value) (A : Around) (outer : List Env) (s : Shared) (H : Hp) (vs : List V) (Q : VK) (E : XK) (p : Addr × Obj) (cls : Value) (d : Option Addr), Zc cls d p.2 → (∃ xs, p.2.data = .fields xs) → L2H.RoomH k (A.deeper (envOfC qual (defScope st) s.heap.objs.size f cdv)) → sp p.1 cls d vs H Q E →
      ∃ t, PSs (L2H.cxH CX0 P w K mg base N qual (defScope st) f cdv A outer s H E p) (defBody st) t ∧ t { nx := fun _ G => Q .non G, rt := Q } (start N vs) H) : FnPin P w K mg base (k + 1) f fd ps sp := by
  obtain ⟨oc, od, kV, doc, pm, an, cdv, ct, osl, rfl, lk, hcd⟩ := F.ex
  refine ⟨len, fun A outer s H args us vs Q E p cls d room pin hz hf e0 hb rel want => ?_⟩
  have same := len _ _ _ _ _ _ _ want
  have base_in : ∀ b o, base.get? b = some o → s.heap.get? b = some o := fun b o e => (e0.bs b o e).1
  have KX : K.In s.heap := e0.mod.kin.keeps base_in
  have kinds : ∀ y ∈ ps.zip us, (defScope st).names.lookup y.1 = some .local ∨ ((defScope st).names.lookup y.1 = some .cell ∧ ((cellsFrom (s.heap.objs.size + 1) (defScope st).names []).lookup y.1).isSome = true) := by
    intro y hy
    obtain ⟨nm, v⟩ := y
    rcases S.par nm (List.of_mem_zip hy).1 with q | q
    · exact Or.inl q
    · exact Or.inr ⟨q, PySem.W.cellsFrom_some _ _ _ (Or.inl q)⟩
  refine codeAny_call_function room.depth (KX _ _ lk) rfl S.co S.gen rfl (PySem.W.codeRec_of KX hcd) (hb _ _ _ _ ?_)
  refine wpAny_newFunctionEnv_cells S.kind kinds fun env he s1 entered => ?_
  subst he
  refine ⟨(e0.mod.nolimit.keeps base_in).keeps entered.toInCall.keep, codeAny_func ?_⟩
  obtain ⟨t, body, reads⟩ := hbody cdv A outer s H vs Q E p cls d hz hf (room.deeper _) want
  have I : Inv (L2H.cxH CX0 P w K mg base N qual (defScope st) f cdv A outer s H E p) [] (start N vs) H s1 := L2H.inv_startH S pin e0 same rel entered
  refine wpAny_mono (body.run [] s1 (start N vs) H _ I reads) (fun fl s' z => ?_) fun _ _ z => z
  cases fl with
  | ret u =>
    obtain ⟨v, τ, G, J, r, q⟩ := z
    exact ⟨v, G, J.os, J.bare, J.base, J.hok, r, q⟩
  | next =>
    obtain ⟨τ, G, J, q⟩ := z
    exact ⟨V.non, G, J.os, J.bare, J.base, J.hok, rfl, q⟩
  | brk =>
    obtain ⟨_, _, _, q⟩ := z
    exact q.elim
  | cont =>
    obtain ⟨_, _, _, q⟩ := z
    exact q.elim
end
section
variable {X : Cx} {k : Nat} {f : Addr} {fd : FuncData} {ps : List Str} {sp : SpP} {x : Str} {q pos : Pos} {e : Expr} {es : List Expr} {t : TA} {a : Addr} {oe : Obj} {cls : Value} {d : Option Addr}
/-- f(e, ..) in a suite that handles p -/
def tCallPin (sp : SpP) (a : Addr) (cls : Value) (d : Option Addr) (t : TA) : TE := fun σ H Q => t σ H fun vs H1 => sp a cls d vs H1 Q E0
theorem pe_callPin (F : FnPin X.prog X.w X.K X.mg X.base k f fd ps sp) (hr : L2H.RoomH k X.A) (hp : (a, oe) ∈ X.pn) (hz : Zc cls d oe) (hf : ∃ xs, oe.data = .fields xs) (hg : Gl X x) (hm : X.mg x = some (.ref f)) (hk : PySem.W.keepIn X.K (.ref f) = true) (hb : Binds X.K fd ps [])
    (ha : PA X (e :: es) t) (hdb : (x == ("__debug__" : Str)) = false := by decide) (he : starEach (e :: es) X.env = (false, eval e X.env) :: starEach es X.env := by rfl) (hpl : (backTo pos (starEach es X.env)).any (·.1) = false := by rfl) :
    PE X (.Call (.Name x q) (e :: es) [] pos) (tCallPin sp a cls d t) := by
  constructor
  intro pins s σ H Q I h
  refine wpAny_Call_Name_kw (ld_glob I hg hm ?_ hdb)
  refine PySem.W.callWith_K (h₀ := X.base) I.ok.mod.kin hk (thn (ha.run pos pins s σ H _ I h) fun us s1 z => ?_) he hpl
  obtain ⟨vs, H1, I1, rel, want⟩ := z
  refine ⟨I1.kIn, ?_⟩
  have hl : us.length = ps.length := rel.length.symm.trans (F.len _ _ _ _ _ _ _ want)
  have b := hb s1 us I1.kIn (by rw [List.append_nil]; exact hl)
  rw [List.append_nil] at b
  obtain ⟨g1, g2, g3, g4, g5⟩ := I1.pin (a, oe) (List.mem_append_left _ hp)
  have pin : L2H.PinOk X.stack H1 s1 (a, oe) := ⟨g1, g2, fun m => (List.mem_cons.mp (I1.stkSub a m)).elim g3 g4, g5⟩
  refine wpAny_call (codeAny_mono (F.run X.A X.stack s1 H1 ⟨us, []⟩ us vs Q E0 (a, oe) cls d hr pin hz hf I1.env0 b rel want) fun r s' z => ?_)
  cases r with
  | error ev => exact False.elim z
  | ok fl =>
    cases fl with
    | ret u => exact I1.after z
    | next => exact False.elim z
    | brk => exact False.elim z
    | cont => exact False.elim z
end
/-- what isinstance asks of the class of an exception -/
structure ExI (K : PySem.W.Frag) (D : Addr) : Prop where
  cl : (PySem.W.clsIn K D).isSome = true
  ga : PySem.W.findIn K (.ref D) "__getattribute__" = some (some (.builtin "BaseException.__getattribute__"))
  gg : PySem.W.findIn K (.ref D) "__getattr__" = some none
  sb : PySem.W.subIn K (.ref D) (.type "BaseException") = some true
  ca : PySem.W.findIn K (.ref D) "__class__" = some (some (.builtin "object.__class__"))
  gt : PySem.W.specialIn K (.builtin "object.__class__") "__get__" = some (some (.builtin "getset_descriptor.__get__"))
  tk : PySem.W.takesIn K (.builtin "object.__class__") = some true
  mo : PySem.W.mroIn K D (.type "object") = some true
def rIsPin (K : PySem.W.Frag) (a : Addr) (cls : Value) (d : Option Addr) : List V → Hp → VK → Prop := fun xs H Q => ∃ (D dd : Addr) (c : V) (cv : Value) (b : Bool) (fs : List (Str × V)), cls = .ref D ∧ d = some dd ∧ ExI K D ∧
  xs = [.ref a, c] ∧ (∀ u, RelV c u → u = cv) ∧ PySem.W.kitOne K (.ref D) cv = some b ∧ H dd = some (.xd fs) ∧ Q (.bl b) H
theorem call_isPin {X : Cx} {a : Addr} {oe : Obj} {cls : Value} {d : Option Addr} (hp : (a, oe) ∈ X.pn) (hz : Zc cls d oe) (hf : ∃ vs, oe.data = .fields vs) : CallR X (.builtin "isinstance") (rIsPin X.K a cls d) := by
  intro pins s σ H xs us Q I r h
  obtain ⟨D, dd, c, cv, b, fs, rfl, rfl, C, rfl, hcv, e, ed, q⟩ := h
  cases r with
  | cons rx rr =>
    cases rr with
    | cons rt rr =>
      cases rr
      cases rx
      obtain rfl := hcv _ rt
      have hget := (I.pin (a, oe) (List.mem_append_left _ hp)).1
      have hx : ObjOk X.prog X.w H s.heap dd (.xd fs) := I.hok dd _ ed
      obtain ⟨mA, ⟨od, es, ep, hod, _⟩, _⟩ := hx
      obtain ⟨vs, hv⟩ := hf
      have at_ : PySem.W.InstAt s.heap a oe D (some od) := ⟨hget, hz.1, by unfold PySem.W.notCls; rw [hv] <;> rfl, by rw [hz.2]; exact hod⟩
      exact PySem.W.kia_one (PySem.W.kitx_exc C.cl C.ga C.gg C.sb C.ca C.gt C.tk C.mo) I.kIn at_ e (fun z => nomatch z) fun tk => ⟨.bl b, H, I.tok tk, rfl, q⟩
end L2

set_option Elab.async false
set_option linter.all false
set_option maxRecDepth 100000
set_option maxHeartbeats 4000000
/-! Part D: the law's draws -/
namespace K00
open PySem L2
def top (i : Nat) : Stmt := PySem.Challenge.pw_tagblocks_k00_errors_made_from_their_fie.main.body.getD i (.Pass ⟨0, 0, 0, 0⟩)
abbrev sBag : Stmt := top 21
abbrev sDraw : Stmt := top 22
abbrev sThing : Stmt := top 23
/-! ### the bag -/
def bagL (c : Addr) (p q r z : Int) : List (Key × V) := [(.inr "cells", .ref c), (.inr "at", .int p), (.inr "digits", .int q), (.inr "count", .int r), (.inr "fold", .int z)]
section
variable (c : Addr) (p q r z y : Int)
theorem get_cells : valV (bagL c p q r z) (.inr "cells" : Key) = some (.ref c) := by kernel_rfl
theorem get_at : valV (bagL c p q r z) (.inr "at" : Key) = some (.int p) := by kernel_rfl
theorem get_digits : valV (bagL c p q r z) (.inr "digits" : Key) = some (.int q) := by kernel_rfl
theorem get_count : valV (bagL c p q r z) (.inr "count" : Key) = some (.int r) := by kernel_rfl
theorem get_fold : valV (bagL c p q r z) (.inr "fold" : Key) = some (.int z) := by kernel_rfl
theorem put_at : putK (bagL c p q r z) (.inr "at" : Key) (.int y) = bagL c y q r z := by kernel_rfl
theorem put_digits : putK (bagL c p q r z) (.inr "digits" : Key) (.int y) = bagL c p y r z := by kernel_rfl
theorem put_count : putK (bagL c p q r z) (.inr "count" : Key) (.int y) = bagL c p q y z := by kernel_rfl
theorem put_fold : putK (bagL c p q r z) (.inr "fold" : Key) (.int y) = bagL c p q r y := by kernel_rfl
theorem bag_new : mergeK [] (bagL c p q r z) = bagL c p q r z := by kernel_rfl
end
/-- a bag stands at b, behind at most m draws -/
structure Bag (H : Hp) (b : Addr) (m : Nat) (c : Addr) (ns : List Int) (p q r z : Int) : Prop where
  at_ : H b = some (.dK (bagL c p q r z))
  cs : H c = some (.lst (ns.map V.int))
  len : ns.length ≤ 63
  p0 : 0 ≤ p
  q0 : 0 ≤ q
  r0 : 0 ≤ r
  rm : r ≤ m
  z0 : 0 ≤ z
  z1 : z < 2147483648
section
variable {H : Hp} {b : Addr} {m : Nat} {c : Addr} {ns : List Int} {p q r z : Int}
theorem Bag.g_cells (B : Bag H b m c ns p q r z) : DGet H b (.str "cells") (some (.ref c)) := by
  rw [← get_cells c p q r z]
  exact DGet.k (k := .inr "cells") B.at_
theorem Bag.g_at (B : Bag H b m c ns p q r z) : DGet H b (.str "at") (some (.int p)) := by
  rw [← get_at c p q r z]
  exact DGet.k (k := .inr "at") B.at_
theorem Bag.g_digits (B : Bag H b m c ns p q r z) : DGet H b (.str "digits") (some (.int q)) := by
  rw [← get_digits c p q r z]
  exact DGet.k (k := .inr "digits") B.at_
theorem Bag.g_count (B : Bag H b m c ns p q r z) : DGet H b (.str "count") (some (.int r)) := by
  rw [← get_count c p q r z]
  exact DGet.k (k := .inr "count") B.at_
theorem Bag.g_fold (B : Bag H b m c ns p q r z) : DGet H b (.str "fold") (some (.int z)) := by
  rw [← get_fold c p q r z]
  exact DGet.k (k := .inr "fold") B.at_
theorem few5 : (bagL c p q r z).length < sizeLine := by
  show 5 < sizeLine
  decide
theorem Bag.p_at (B : Bag H b m c ns p q r z) (y : Int) : DPut H b (.str "at") (.int y) (upd H b (.dK (bagL c y q r z))) := by
  rw [← put_at c p q r z y]
  exact DPut.k (k := .inr "at") B.at_ few5
theorem Bag.p_digits (B : Bag H b m c ns p q r z) (y : Int) : DPut H b (.str "digits") (.int y) (upd H b (.dK (bagL c p y r z))) := by
  rw [← put_digits c p q r z y]
  exact DPut.k (k := .inr "digits") B.at_ few5
theorem Bag.p_count (B : Bag H b m c ns p q r z) (y : Int) : DPut H b (.str "count") (.int y) (upd H b (.dK (bagL c p q y z))) := by
  rw [← put_count c p q r z y]
  exact DPut.k (k := .inr "count") B.at_ few5
theorem Bag.p_fold (B : Bag H b m c ns p q r z) (y : Int) : DPut H b (.str "fold") (.int y) (upd H b (.dK (bagL c p q r y))) := by
  rw [← put_fold c p q r z y]
  exact DPut.k (k := .inr "fold") B.at_ few5
end
def BagAt (H : Hp) (b : Addr) (m : Nat) : Prop := ∃ c ns p q r z, Bag H b m c ns p q r z
theorem BagAt.keep {H H' : Hp} {b : Addr} {m : Nat} (h : BagAt H b m) (s : Same H H') : BagAt H' b m := by
  obtain ⟨c, ns, p, q, r, z, B⟩ := h
  exact ⟨c, ns, p, q, r, z, s _ _ B.at_, s _ _ B.cs, B.len, B.p0, B.q0, B.r0, B.rm, B.z0, B.z1⟩
theorem bag_upd {H : Hp} {b c : Addr} {m m' : Nat} {ns : List Int} {p q r z p' q' r' z' : Int} (B : Bag H b m c ns p q r z) (hp : 0 ≤ p') (hq : 0 ≤ q') (hr : 0 ≤ r') (hm : r' ≤ m') (hz : 0 ≤ z') (hz1 : z' < 2147483648) :
    Bag (upd H b (.dK (bagL c p' q' r' z'))) b m' c ns p' q' r' z' :=
  ⟨upd_same, by rw [upd_ne (ne_of B.cs B.at_ (by intro z; cases z))]; exact B.cs, B.len, hp, hq, hr, hm, hz, hz1⟩
def spBag (K : PySem.W.Frag) : Sp := fun vs H Q _ => ∃ (a : Addr) (ns : List Int), vs = [.ref a] ∧ SqL K H a (ns.map V.int) ∧ ns.length ≤ 63 ∧ ∀ (b : Addr) (H' : Hp), Same H H' → BagAt H' b 0 → Q (.ref b) H'
/-- all but b is kept -/
def But (b : Addr) (H H' : Hp) : Prop := ∀ x o, H x = some o → x ≠ b → H' x = some o
theorem But.refl (b : Addr) (H : Hp) : But b H H := fun _ _ h _ => h
theorem But.trans {b : Addr} {H H1 H2 : Hp} (h1 : But b H H1) (h2 : But b H1 H2) : But b H H2 := fun x o h n => h2 x o (h1 x o h n) n
theorem But.upd {b : Addr} {H H1 : Hp} {o : HO} (h1 : But b H H1) : But b H (upd H1 b o) := fun x u h n => by rw [upd_ne n]; exact h1 x u h n
def spDraw : Sp := fun vs H Q _ => ∃ (b : Addr) (lim : Int) (m : Nat), vs = [.ref b, .int lim] ∧ BagAt H b m ∧ m ≤ 100000 ∧ 0 < lim ∧ lim ≤ 1000000000000000 ∧
  ∀ (r : Int) (H' : Hp), 0 ≤ r → r < lim → BagAt H' b (m + 1) → But b H H' → Q (.int r) H'
/-- the names that the module does not have -/
structure TxtB (mg : Str → Option Value) : Prop where
  len : mg "len" = none
  int : mg "int" = none
  list : mg "list" = none
  range : mg "range" = none
section
variable {P : Program} {w : World} {K : PySem.W.Frag} {mg : Str → Option Value} {base : Heap}
theorem scB : FnScope ["_law_script", "_law_fold", "_law_cell"] ["_law_script"] (defScope sBag) := ⟨rfl, rfl, rfl, by decide +kernel, rfl, by decide +kernel, by decide +kernel⟩
theorem ok_bag {f : Addr} {fd : FuncData} (F : Fun K "_law_bag" "_law_bag" sBag f fd) (T : TxtB mg) : FnOk P w K mg base CX0 1 f fd ["_law_script"] (spBag K) := by
  refine F.ok scB (fun vs H Q E h => ?_) (fun cdv A outer s H vs Q E hr h => ?_)
  · obtain ⟨a, ns, rfl, _⟩ := h
    rfl
  · obtain ⟨a, ns, rfl, hS, hlen, k⟩ := h
    have hu := hu_of hr
    refine ⟨_, pss_cons (ps_set (i := 1) scB.nd rfl (Or.inl rfl) pe_int)
      (pss_cons (ps_for PassesOwn.never rfl (pi_list (pv 0)) (pg_name (i := 2) scB.nd rfl (Or.inl rfl))
        (pss_one (ps_set (i := 1) scB.nd rfl (Or.inl rfl) (pe_op op_mod (pe_callTy call_int1 (by rfl) T.int (by decide +kernel) (pa_cons (pe_op op_add (pe_op op_mul (pv 1) pe_int) (pv 2)) pa_nil)) pe_int))))
      (pss_one (ps_ret (pe_disp (pps_cons pe_str (pe_callTy call_list_of (by rfl) T.list (by decide +kernel) (pa_cons (pv 0) pa_nil)) (pps_cons pe_str pe_int (pps_cons pe_str pe_int (pps_cons pe_str pe_int (pps_cons pe_str (pv 1) pps_nil))))) (by rfl) (by rfl) (fun z => by cases z) (by decide))))), ?_⟩
    refine ⟨_, rfl, a, rfl, ⟨_, hS⟩, for_list (K := K) (a := a) (xs := ns.map V.int) (fun i σ H2 => ∃ (z : Int) (v : Option V), σ = [some (.ref a), some (.int z), v] ∧ H2 = H ∧ 0 ≤ z ∧ z < 1000000009)
      ⟨0, none, rfl, rfl, by decide, by decide⟩ (fun i σ H2 _ ⟨_, _, _, e, _⟩ => by rw [e]; exact hS) ?_ ?_⟩
    · rintro i y σ H2 hi ⟨z, v, rfl, rfl, z0, z1⟩
      obtain ⟨n, rfl⟩ : ∃ n, y = V.int n := by
        rw [List.getElem?_map] at hi
        cases e : ns[i]? with
        | none => rw [e] at hi; cases hi
        | some n => rw [e] at hi; exact ⟨n, (Option.some.inj hi).symm⟩
      refine ⟨_, rfl, _, _, rfl, rfl, .inl ⟨by omega, by omega⟩, _, rfl, _, _, rfl, rfl, .inl ⟨_, rfl, _, _, rfl, rfl, (by show (0 : Int) < 1000000009; decide), ?_⟩⟩
      exact ⟨_, _, rfl, rfl, Int.emod_nonneg _ (by decide), Int.emod_lt_of_pos _ (by decide)⟩
    · rintro σ H2 ⟨z, v, rfl, rfl, z0, z1⟩
      intro p hp
      have s1 : Same H2 (upd H2 p (.dK [])) := fun b o e => by rw [upd_ne (ne_of_none e hp)]; exact e
      refine ⟨_, rfl, a, _, rfl, .inl (s1.seq hS), fun l hl => ?_⟩
      have npl : p ≠ l := fun e => by rw [e, upd_same] at hl; cases hl
      refine ⟨_, rfl, by rw [upd_ne npl]; exact upd_same, bagL l 0 0 0 z, rfl, by show 5 ≤ 15; decide, ?_⟩
      refine k p _ (fun b o e => ?_) ⟨l, ns, 0, 0, 0, z, ?_, ?_, hlen, Int.le_refl _, Int.le_refl _, Int.le_refl _, Int.le_refl _, z0, by omega⟩
      · have bp := ne_of_none e hp
        have bl : b ≠ l := fun z => by rw [← z, upd_ne bp, e] at hl; cases hl
        rw [upd_ne bp, upd_ne bl, upd_ne bp]
        exact e
      · rw [bag_new]
        exact upd_same
      · rw [upd_ne npl.symm]
        exact upd_same
theorem scD : FnScope ["_law_bag_here", "_law_limit", "_law_cell", "_law_digit", "_law_base", "_law_found"] ["_law_bag_here", "_law_limit"] (defScope sDraw) := ⟨rfl, rfl, rfl, by decide +kernel, rfl, by decide +kernel, by decide +kernel⟩
theorem ok_draw {f : Addr} {fd : FuncData} (F : Fun K "_law_draw" "_law_draw" sDraw f fd) (T : TxtB mg) : FnOk P w K mg base CX0 1 f fd ["_law_bag_here", "_law_limit"] spDraw := by
  refine F.ok scD (fun vs H Q E h => ?_) (fun cdv A outer s H vs Q E hr h => ?_)
  · obtain ⟨b, lim, m, rfl, _⟩ := h
    rfl
  · obtain ⟨b, lim, m, rfl, hB, hm, h0, h1, k⟩ := h
    have hu := hu_of hr
    -- the end: a digit, or a number of the fold
    obtain ⟨t2, p2, r2⟩ : ∃ t2, PSs (cxOf CX0 P w K mg base ["_law_bag_here", "_law_limit", "_law_cell", "_law_digit", "_law_base", "_law_found"] "_law_draw" (defScope sDraw) f cdv A outer s H E).nox ((defBody sDraw).drop 2) t2 ∧
        ∀ (H1 : Hp) (v : Option V), BagAt H1 b (m + 1) → But b H H1 → t2 { nx := fun _ H' => Q .non H', rt := Q } [some (.ref b), some (.int lim), v, none, none, none] H1 := by
      refine ⟨_, pss_cons (ps_if (pt_cmpR op_gt (pe_dget hu (pv 0) pe_str (fun _ _ => rfl)) pe_int (nomark _))
          (pss_cons (ps_set (i := 3) scD.nd rfl (Or.inl rfl) (pe_op op_mod (pe_callTy call_int1 (by rfl) T.int (by decide +kernel) (pa_cons (pe_dget hu (pv 0) pe_str (fun _ _ => rfl)) pa_nil)) (pv 1)))
          (pss_cons (ps_dput hu (pv 0) pe_str (pe_op op_fdivW (pe_dget hu (pv 0) pe_str (fun _ _ => rfl)) (pv 1)) rfl)
          (pss_one (ps_ret (pv 3))))) pss_nil)
        (pss_cons (ps_set (i := 4) scD.nd rfl (Or.inl rfl) (pe_op op_add (pe_op op_add (pe_dget hu (pv 0) pe_str (fun _ _ => rfl)) (pe_op op_mul (pe_dget hu (pv 0) pe_str (fun _ _ => rfl)) pe_int)) pe_int))
        (pss_cons (ps_set (i := 5) scD.nd rfl (Or.inl rfl) (pe_op op_fdiv (pe_callTy call_int1 (by rfl) T.int (by decide +kernel) (pa_cons (pe_op op_mod (pe_op op_pow (pv 4) pe_int) pe_int) pa_nil)) pe_int))
        (pss_one (ps_ret (pe_ifExp (pt_cmpR op_lt (pv 1) (pe_op op_pow pe_int pe_int) (nomark _)) (pe_op op_mod (pv 5) (pv 1)) (pe_op op_mod (pe_callTy call_int1 (by rfl) T.int (by decide +kernel) (pa_cons (pe_op op_pow (pv 5) pe_int) pa_nil)) (pv 1))))))), ?_⟩
      intro H1 v ⟨c, ns, p, q, r, z, B⟩ hk
      refine ⟨_, rfl, b, _, rfl, B.g_digits, _, _, rfl, rfl, _, rfl, ?_⟩
      refine ite2 (fun hq => ?_) (fun hq => ?_)
      · refine ⟨_, rfl, b, _, rfl, B.g_digits, .inl ⟨_, rfl, _, rfl, _, _, rfl, rfl, h0, ?_⟩⟩
        have hw : CDivW q lim := wide_div (b := 60) h0 (by
          have e : (2 : Nat) ^ 60 = 1152921504606846976 := by decide
          rw [e]
          omega) (by decide) (by decide)
        refine ⟨_, rfl, b, _, rfl, B.g_digits, _, rfl, q, lim, rfl, rfl, hw, _, rfl, b, _, rfl, B.p_digits _, _, rfl, ?_⟩
        exact k _ _ (Int.emod_nonneg _ (by omega)) (Int.emod_lt_of_pos _ h0) ⟨c, ns, _, _, _, _, bag_upd B B.p0 (Int.ediv_nonneg B.q0 (by omega)) B.r0 B.rm B.z0 B.z1⟩ hk.upd
      · refine ⟨_, rfl, b, _, rfl, B.g_fold, _, rfl, b, _, rfl, B.g_count, r, 7907, rfl, rfl, .inl ⟨by have := B.r0; omega, by have := B.rm; omega⟩, z, _, rfl, rfl, z + r * 7907, 31, rfl, rfl, ?_⟩
        have hb0 : 0 ≤ z + r * 7907 + 31 := by
          have := B.r0
          have := B.z0
          omega
        have hb1 : (z + r * 7907 + 31).natAbs < 2 ^ 64 := by
          have e : (2 : Nat) ^ 64 = 18446744073709551616 := by decide
          rw [e]
          have := B.rm
          have := B.r0
          have := B.z1
          omega
        have hl : ∀ x y : Int, 0 ≤ x % lim ∧ x % lim < lim := fun x _ => ⟨Int.emod_nonneg _ (by omega), Int.emod_lt_of_pos _ h0⟩
        refine ⟨_, rfl, _, 17, rfl, rfl, ⟨by decide, by decide, hb1⟩, _, _, rfl, rfl, (by show (0 : Int) < 2305843009213693951; decide), .inl ⟨_, rfl, _, 128, rfl, rfl, ⟨by decide, by decide⟩, ?_⟩⟩
        have f0 : 0 ≤ (z + r * 7907 + 31) ^ Int.toNat 17 % 2305843009213693951 / 128 := Int.ediv_nonneg (Int.emod_nonneg _ (by decide)) (by decide)
        have f1 : (z + r * 7907 + 31) ^ Int.toNat 17 % 2305843009213693951 / 128 < 18446744073709551616 := by
          have := Int.emod_lt_of_pos ((z + r * 7907 + 31) ^ Int.toNat 17) (show (0 : Int) < 2305843009213693951 by decide)
          omega
        have f2 : ((z + r * 7907 + 31) ^ Int.toNat 17 % 2305843009213693951 / 128).natAbs < 2 ^ 64 := by
          have e : (2 : Nat) ^ 64 = 18446744073709551616 := by decide
          rw [e]
          omega
        have B' : BagAt H1 b (m + 1) := ⟨c, ns, p, q, r, z, B⟩
        refine ⟨_, rfl, 10, 15, rfl, rfl, ⟨by decide, by decide, by decide⟩, _, _, rfl, rfl, _, rfl, ?_⟩
        refine ite2 (fun _ => ?_) (fun _ => ?_)
        · exact ⟨_, rfl, _, rfl, _, _, rfl, rfl, h0, k _ _ (hl _ 0).1 (hl _ 0).2 B' hk⟩
        · exact ⟨_, rfl, _, 3, rfl, rfl, ⟨by decide, by decide, f2⟩, .inl ⟨_, rfl, _, rfl, _, _, rfl, rfl, h0, k _ _ (hl _ 0).1 (hl _ 0).2 B' hk⟩⟩
    refine ⟨_, pss_cons (ps_dput hu (pv 0) pe_str (pe_op op_add (pe_dget hu (pv 0) pe_str (fun _ _ => rfl)) pe_int) rfl)
      (pss_cons (ps_if (PW.pt (pw_and (pt_cmpR op_eq (pe_dget hu (pv 0) pe_str (fun _ _ => rfl)) pe_int (nomark _)) (pw_and1 (pt_cmpR op_lt (pe_dget hu (pv 0) pe_str (fun _ _ => rfl)) (pe_callB call_len_seq (by rfl) T.len PySem.boot_len (pa_cons (pe_dget hu (pv 0) pe_str (fun _ _ => rfl)) pa_nil)) (nomark _)))))
        (pss_cons (ps_set (i := 2) scD.nd rfl (Or.inl rfl) (pe_ix ix_list (pe_dget hu (pv 0) pe_str (fun _ _ => rfl)) (pe_dget hu (pv 0) pe_str (fun _ _ => rfl)) (fun _ _ => rfl)))
        (pss_cons (ps_dput hu (pv 0) pe_str (pe_op op_add (pe_dget hu (pv 0) pe_str (fun _ _ => rfl)) pe_int) rfl)
        (pss_one (ps_if (pt_cmpR op_ge (pv 2) (pe_op op_pow pe_int pe_int) (nomark _))
          (pss_one (ps_dput hu (pv 0) pe_str (pe_op op_sub (pv 2) (pe_op op_pow pe_int pe_int)) rfl))
          (pss_one (ps_dput hu (pv 0) pe_str (pe_op op_mod (pe_callTy call_int1 (by rfl) T.int (by decide +kernel) (pa_cons (pe_op op_add (pe_op op_mul (pe_dget hu (pv 0) pe_str (fun _ _ => rfl)) pe_int) (pv 2)) pa_nil)) pe_int) rfl))))))
        pss_nil) p2), ?_⟩
    obtain ⟨c, ns, p, q, r, z, B⟩ := hB
    refine ⟨_, rfl, b, _, rfl, B.g_count, r, 1, rfl, rfl, _, rfl, b, _, rfl, B.p_count _, ?_⟩
    have B1 : Bag (upd H b (.dK (bagL c p q (r + 1) z))) b (m + 1) c ns p q (r + 1) z := bag_upd B B.p0 B.q0 (by have := B.r0; omega) (by have := B.rm; omega) B.z0 B.z1
    have k1 : But b H (upd H b (.dK (bagL c p q (r + 1) z))) := (But.refl b H).upd
    refine ⟨_, rfl, b, _, rfl, B1.g_digits, rfl, _, rfl, ?_⟩
    refine ite2 (fun hq => ?_) (fun hq => ?_)
    · refine ⟨_, rfl, b, _, rfl, B1.g_at, _, rfl, b, _, rfl, B1.g_cells, c, _, rfl, .inl (SqL.of B1.cs), _, _, rfl, rfl, _, rfl, ?_⟩
      refine ite2 (fun hp => ?_) (fun hp => ?_)
      · have hp' : p < ((ns.map V.int).length : Int) := of_decide_eq_true hp
        rw [List.length_map] at hp'
        have hpn : p.toNat < ns.length := by have := B.p0; omega
        obtain ⟨cell, hcell⟩ : ∃ cell : Int, ns[p.toNat]? = some cell := ⟨_, List.getElem?_eq_getElem hpn⟩
        have hit : (ns.map V.int)[p.toNat]? = some (V.int cell) := by simp [hcell]
        have hat : atI (ns.map V.int) p = some (V.int cell) := by
          have e : p = (p.toNat : Int) := by have := B.p0; omega
          rw [e]
          exact atI_nat hit
        have B2 : Bag (upd (upd H b (.dK (bagL c p q (r + 1) z))) b (.dK (bagL c (p + 1) q (r + 1) z))) b (m + 1) c ns (p + 1) q (r + 1) z := bag_upd B1 (by have := B.p0; omega) B1.q0 B1.r0 B1.rm B1.z0 B1.z1
        refine ⟨_, rfl, b, _, rfl, B1.g_cells, _, rfl, b, _, rfl, B1.g_at, c, _, p, _, rfl, rfl, SqL.of B1.cs, hat, ?_⟩
        refine ⟨_, rfl, b, _, rfl, B1.g_at, p, 1, rfl, rfl, _, rfl, b, _, rfl, B1.p_at _, ?_⟩
        refine ⟨_, rfl, 10, 18, rfl, rfl, ⟨by decide, by decide, by decide⟩, _, _, rfl, rfl, _, rfl, ?_⟩
        refine ite2 (fun hc => ?_) (fun hc => ?_)
        · have hc' : (10 : Int) ^ Int.toNat 18 ≤ cell := of_decide_eq_true hc
          refine ⟨_, rfl, 10, 18, rfl, rfl, ⟨by decide, by decide, by decide⟩, _, _, rfl, rfl, _, rfl, b, _, rfl, B2.p_digits _, ?_⟩
          exact r2 _ _ ⟨c, ns, _, _, _, _, bag_upd B2 B2.p0 (by omega) B2.r0 B2.rm B2.z0 B2.z1⟩ k1.upd.upd
        · refine ⟨_, rfl, b, _, rfl, B2.g_fold, z, 69069, rfl, rfl, .inl ⟨by have := B.z0; omega, by have := B.z1; omega⟩, _, rfl, _, cell, rfl, rfl, .inl ⟨_, rfl, _, 2147483587, rfl, rfl, (by show (0 : Int) < 2147483587; decide), _, rfl, b, _, rfl, B2.p_fold _, ?_⟩⟩
          refine r2 _ _ ⟨c, ns, _, _, _, _, bag_upd B2 B2.p0 B2.q0 B2.r0 B2.rm (Int.emod_nonneg _ (by decide)) ?_⟩ k1.upd.upd
          have := Int.emod_lt_of_pos (z * 69069 + cell) (show (0 : Int) < 2147483587 by decide)
          omega
      · exact r2 _ none ⟨c, ns, p, q, _, z, B1⟩ k1
    · exact r2 _ none ⟨c, ns, p, q, _, z, B1⟩ k1
end
end K00

set_option Elab.async false
set_option linter.all false
set_option maxRecDepth 100000
set_option maxHeartbeats 4000000
/-! Part E: the law's things -/
namespace K00
open PySem L2
inductive Thing (H : Hp) : V → PyData → Prop
  | int (i : Int) : Thing H (.int i) (.int i)
  | str (x : Str) (h : PyData.canLay0 (.str x) = true) : Thing H (.str x) (.str x)
  | non : Thing H .non .none
  | bl (b : Bool) : Thing H (.bl b) (.bool b)
  | tup (a : Addr) (h : H a = some (.tup [.int 1, .str "a"])) : Thing H (.ref a) (.tuple [.int 1, .str "a"])
  | nil (a : Addr) (h : H a = some (.lst [])) : Thing H (.ref a) (.list [])
  | one (a : Addr) (h : H a = some (.lst [.int 3])) : Thing H (.ref a) (.list [.int 3])
theorem Thing.keep {H H' : Hp} {v : V} {d : PyData} (h : Thing H v d) (s : Same H H') : Thing H' v d := by
  cases h with
  | int i => exact .int i
  | str x h => exact .str x h
  | non => exact .non
  | bl b => exact .bl b
  | tup a h => exact .tup a (s _ _ h)
  | nil a h => exact .nil a (s _ _ h)
  | one a h => exact .one a (s _ _ h)
theorem Thing.but {H H' : Hp} {v : V} {d : PyData} {b : Addr} {m : Nat} (h : Thing H v d) (s : But b H H') (B : BagAt H b m) : Thing H' v d := by
  obtain ⟨c, ns, p, q, r, z, B⟩ := B
  cases h with
  | int i => exact .int i
  | str x h => exact .str x h
  | non => exact .non
  | bl b => exact .bl b
  | tup a h => exact .tup a (s _ _ h (ne_of h B.at_ (by intro z; cases z)))
  | nil a h => exact .nil a (s _ _ h (ne_of h B.at_ (by intro z; cases z)))
  | one a h => exact .one a (s _ _ h (ne_of h B.at_ (by intro z; cases z)))
theorem Thing.dp {K : PySem.W.Frag} {H : Hp} {v : V} {d : PyData} (h : Thing H v d) : Dp K H v d := by
  cases h with
  | int i => exact .int i
  | str x h => exact .str x
  | non => exact .non
  | bl b => exact .bl b
  | tup a h => exact .tup (SqT.of h) (.cons (.int 1) (.cons (.str _) .nil))
  | nil a h => exact .lst (SqL.of h) .nil
  | one a h => exact .lst (SqL.of h) (.cons (.int 3) .nil)
theorem Thing.lay {H : Hp} {v : V} {d : PyData} (h : Thing H v d) : d.canLay0 = true ∧ d.depth ≤ 2 := by
  cases h with
  | int i => exact ⟨by simp [PyData.canLay0], by simp [PyData.depth]⟩
  | str x h => exact ⟨h, by simp [PyData.depth]⟩
  | non => exact ⟨by simp [PyData.canLay0], by decide⟩
  | bl b => exact ⟨by simp [PyData.canLay0], by simp [PyData.depth]⟩
  | tup a h => exact ⟨by decide +kernel, by decide +kernel⟩
  | nil a h => exact ⟨by decide +kernel, by decide +kernel⟩
  | one a h => exact ⟨by decide +kernel, by decide +kernel⟩
def spThing : Sp := fun vs H Q _ => ∃ (b : Addr) (m : Nat), vs = [.ref b] ∧ BagAt H b m ∧ m ≤ 10000 ∧
  ∀ (v : V) (d : PyData) (H' : Hp), Thing H' v d → BagAt H' b (m + 4) → But b H H' → Q v H'
theorem Same.new {H : Hp} {a : Addr} {o : HO} (h : H a = none) : Same H (upd H a o) := fun b u e => by
  rw [upd_ne (ne_of_none e h)]
  exact e
theorem BagAt.some {H : Hp} {b : Addr} {m : Nat} (B : BagAt H b m) : ∃ o, H b = some o := by
  obtain ⟨c, ns, p, q, r, z, B⟩ := B
  exact ⟨_, B.at_⟩
theorem But.of {H H' : Hp} (b : Addr) (s : Same H H') : But b H H' := fun x o h _ => s x o h
theorem BagAt.up {H : Hp} {b : Addr} {m m' : Nat} (B : BagAt H b m) (h : m ≤ m') : BagAt H b m' := by
  obtain ⟨c, ns, p, q, r, z, B⟩ := B
  exact ⟨c, ns, p, q, r, z, B.at_, B.cs, B.len, B.p0, B.q0, B.r0, by have := B.rm; omega, B.z0, B.z1⟩
structure TxtC (K : PySem.W.Frag) (mg : Str → Option Value) (fD : Addr) : Prop where
  gD : mg "_law_draw" = some (.ref fD)
  kD : PySem.W.keepIn K (.ref fD) = true
section
variable {P : Program} {w : World} {K : PySem.W.Frag} {mg : Str → Option Value} {base : Heap}
theorem scT : FnScope ["_law_bag_here", "_law_great", "_law_things"] ["_law_bag_here"] (defScope sThing) := ⟨rfl, rfl, rfl, by decide +kernel, rfl, by decide +kernel, by decide +kernel⟩
theorem ok_thing {f fD : Addr} {fd fdD : FuncData} (F : Fun K "_law_thing" "_law_thing" sThing f fd) (T : TxtB mg) (U : TxtC K mg fD) (FD : Fun K "_law_draw" "_law_draw" sDraw fD fdD) (bD : Binds K fdD ["_law_bag_here", "_law_limit"] []) : FnOk P w K mg base CX0 2 f fd ["_law_bag_here"] spThing := by
  have GD : FnOk P w K mg base CX0 1 fD fdD ["_law_bag_here", "_law_limit"] spDraw := ok_draw FD T
  refine F.ok scT (fun vs H Q E h => ?_) (fun cdv A outer s H vs Q E hr h => ?_)
  · obtain ⟨b, m, rfl, _⟩ := h
    rfl
  · obtain ⟨b, m, rfl, hB, hm, k⟩ := h
    refine ⟨_, pss_cons (ps_set (i := 1) scT.nd rfl (Or.inl rfl) (pe_op op_sub (pe_op op_mul (pe_call GD hr rfl U.gD U.kD bD .nil pass0 (pa_cons (pv 0) (pa_cons (pe_op op_pow pe_int pe_int) pa_nil))) (pe_op op_pow pe_int pe_int)) (pe_op op_pow pe_int pe_int)))
      (pss_cons (ps_set (i := 2) scT.nd rfl (Or.inl rfl) (pe_lst (pa_cons (pe_ix ix_list (pe_lst (pa_cons (pv 1) (pa_cons (pe_op op_sub (pe_call GD hr rfl U.gD U.kD bD .nil pass0 (pa_cons (pv 0) (pa_cons pe_int pa_nil))) pe_int) pa_nil))) (pe_call GD hr rfl U.gD U.kD bD .nil pass0 (pa_cons (pv 0) (pa_cons pe_int pa_nil))) (fun _ _ => rfl))
        (pa_cons pe_str (pa_cons pe_str (pa_cons pe_non (pa_cons pe_bl (pa_cons (pe_tup (pa_cons pe_int (pa_cons pe_str pa_nil))) (pa_cons (pe_lst pa_nil) (pa_cons (pe_lst (pa_cons pe_int pa_nil)) (pa_cons pe_int pa_nil)))))))))))
      (pss_one (ps_ret (pe_ix ix_list (pv 2) (pe_call GD hr rfl U.gD U.kD bD .nil pass0 (pa_cons (pv 0) (pa_cons pe_int pa_nil))) (fun _ _ => rfl))))), ?_⟩
    have p15 : (10 : Int) ^ Int.toNat 15 = 1000000000000000 := by decide
    have mk : ∀ {H1 : Hp} {x : Addr}, BagAt H1 b m → True := fun _ => True.intro
    refine ⟨_, rfl, 10, 15, rfl, rfl, ⟨by decide, by decide, by decide⟩, b, _, m, rfl, hB, by omega, by rw [p15]; decide, by rw [p15]; decide, fun r1 H1 a1 b1 B1 k1 => ?_⟩
    rw [p15] at b1
    refine ⟨10, 15, rfl, rfl, ⟨by decide, by decide, by decide⟩, r1, _, rfl, rfl, .inl ⟨by omega, by omega⟩, 10, 29, rfl, rfl, ⟨by decide, by decide, by decide⟩, _, _, rfl, rfl, ?_⟩
    obtain ⟨great, hgreat⟩ : ∃ great : Int, great = r1 * 10 ^ Int.toNat 15 - 10 ^ Int.toNat 29 := ⟨_, rfl⟩
    refine ⟨_, rfl, _, rfl, b, 99, m + 1, rfl, B1, by omega, by decide, by decide, fun r2 H2 a2 b2 B2 k2 => ?_⟩
    refine ⟨_, _, rfl, rfl, (by show 2 ≤ sizeLine; decide), fun l hl => ?_⟩
    obtain ⟨ob2, eb2⟩ := B2.some
    have lb : l ≠ b := (ne_of_none eb2 hl).symm
    refine ⟨_, rfl, b, 2, m + 2, rfl, B2.keep (Same.new hl), by omega, by decide, by decide, fun r3 H3 a3 b3 B3 k3 => ?_⟩
    have hl3 := k3 l _ upd_same lb
    have hv : ∃ g : Int, atI [V.int (r1 * 10 ^ Int.toNat 15 - 10 ^ Int.toNat 29), V.int (r2 - 9)] r3 = some (V.int g) := by
      have hr3 : r3 = 0 ∨ r3 = 1 := by omega
      rcases hr3 with e | e
      · exact ⟨_, by rw [e]; exact atI_nat (j := 0) rfl⟩
      · exact ⟨_, by rw [e]; exact atI_nat (j := 1) rfl⟩
    obtain ⟨g, hg⟩ := hv
    refine ⟨l, _, r3, _, rfl, rfl, SqL.of hl3, hg, ?_⟩
    refine ⟨(by show 2 ≤ sizeLine; decide), fun t ht => ⟨(by show 0 ≤ sizeLine; decide), fun l1 hl1 => ⟨(by show 1 ≤ sizeLine; decide), fun l2 hl2 => ⟨(by show 9 ≤ sizeLine; decide), fun L hL => ?_⟩⟩⟩⟩
    obtain ⟨ob3, eb3⟩ := B3.some
    have S1 := Same.new (o := .tup [.int 1, .str "a"]) ht
    have S2 := Same.new (o := .lst []) hl1
    have S3 := Same.new (o := .lst [.int 3]) hl2
    have S4 := Same.new (o := .lst [.int g, .str "", .str "p1", .non, .bl true, .ref t, .ref l1, .ref l2, .int 0]) hL
    have B4 := (((B3.keep S1).keep S2).keep S3).keep S4
    obtain ⟨ob4, eb4⟩ := B4.some
    have nL : L ≠ b := fun e => by
      have z := S3 _ _ (S2 _ _ (S1 _ _ eb3))
      rw [← e, hL] at z
      cases z
    refine ⟨_, rfl, _, rfl, b, 9, m + 3, rfl, B4, by omega, by decide, by decide, fun r4 H4 a4 b4 B5 k4 => ?_⟩
    have hL4 := k4 L _ upd_same nL
    have kk : But b H H4 := (((k1.trans k2).trans (But.of b (Same.new hl))).trans k3).trans ((But.of b (((S1.trans S2).trans S3).trans S4)).trans k4)
    have hr4 : r4 = 0 ∨ r4 = 1 ∨ r4 = 2 ∨ r4 = 3 ∨ r4 = 4 ∨ r4 = 5 ∨ r4 = 6 ∨ r4 = 7 ∨ r4 = 8 := by omega
    have th : ∃ v d, atI [V.int g, .str "", .str "p1", .non, .bl true, .ref t, .ref l1, .ref l2, .int 0] r4 = some v ∧ Thing (upd (upd (upd (upd H3 t (.tup [.int 1, .str "a"])) l1 (.lst [])) l2 (.lst [.int 3])) L (.lst [.int g, .str "", .str "p1", .non, .bl true, .ref t, .ref l1, .ref l2, .int 0])) v d := by
      rcases hr4 with e | e | e | e | e | e | e | e | e
      · exact ⟨_, _, by rw [e]; exact atI_nat (j := 0) rfl, .int _⟩
      · exact ⟨_, _, by rw [e]; exact atI_nat (j := 1) rfl, .str _ (by decide +kernel)⟩
      · exact ⟨_, _, by rw [e]; exact atI_nat (j := 2) rfl, .str _ (by decide +kernel)⟩
      · exact ⟨_, _, by rw [e]; exact atI_nat (j := 3) rfl, .non⟩
      · exact ⟨_, _, by rw [e]; exact atI_nat (j := 4) rfl, .bl _⟩
      · exact ⟨_, _, by rw [e]; exact atI_nat (j := 5) rfl, .tup t (S4 _ _ (S3 _ _ (S2 _ _ upd_same)))⟩
      · exact ⟨_, _, by rw [e]; exact atI_nat (j := 6) rfl, .nil l1 (S4 _ _ (S3 _ _ upd_same))⟩
      · exact ⟨_, _, by rw [e]; exact atI_nat (j := 7) rfl, .one l2 (S4 _ _ upd_same)⟩
      · exact ⟨_, _, by rw [e]; exact atI_nat (j := 8) rfl, .int _⟩
    obtain ⟨v, d, hat, hth⟩ := th
    exact ⟨L, _, r4, v, rfl, rfl, SqL.of hL4, hat, k v d H4 (hth.but k4 B4) B5 kk⟩
end
end K00

set_option Elab.async false
set_option linter.all false
set_option maxRecDepth 100000
set_option maxHeartbeats 4000000
/-! Part F: the errors of the program, one by one; what raises them -/
namespace K00
open PySem L2
abbrev PP : Program := PySem.Challenge.pw_tagblocks_k00_errors_made_from_their_fie
/-- the text of the i-th error's __init__ -/
abbrev sInit (i : Nat) : Stmt := inClass (top (i + 2)) 0
def eN : Nat → Str
  | 0 => "BadKind"
  | 1 => "BadLine"
  | 2 => "Refused"
  | 3 => "TooMany"
  | 4 => "BadPromise"
  | 5 => "BadRule"
  | 6 => "BadSize"
  | 7 => "BadNumber"
  | 8 => "BadCount"
  | 9 => "BadCase"
  | 10 => "BadOutcomes"
  | 11 => "BadName"
  | 12 => "BadLength"
  | 13 => "OtherKinds"
  | 14 => "OtherRules"
  | 15 => "Broken"
  | 16 => "BadGap"
  | _ => "BadMap"
def eQ : Nat → Str
  | 0 => "BadKind.__init__"
  | 1 => "BadLine.__init__"
  | 2 => "Refused.__init__"
  | 3 => "TooMany.__init__"
  | 4 => "BadPromise.__init__"
  | 5 => "BadRule.__init__"
  | 6 => "BadSize.__init__"
  | 7 => "BadNumber.__init__"
  | 8 => "BadCount.__init__"
  | 9 => "BadCase.__init__"
  | 10 => "BadOutcomes.__init__"
  | 11 => "BadName.__init__"
  | 12 => "BadLength.__init__"
  | 13 => "OtherKinds.__init__"
  | 14 => "OtherRules.__init__"
  | 15 => "Broken.__init__"
  | 16 => "BadGap.__init__"
  | _ => "BadMap.__init__"
def eF : Nat → Str
  | 0 => "kind"
  | 1 => "line"
  | 2 => "line"
  | 3 => "what"
  | 4 => "promise"
  | 5 => "what"
  | 6 => "size"
  | 7 => "number"
  | 8 => "many"
  | 9 => "case"
  | 10 => "word"
  | 11 => "name"
  | 12 => "length"
  | 13 => "part"
  | 14 => "part"
  | 15 => "part"
  | 16 => "gap"
  | _ => "index"
def eR : Nat → List Str
  | 3 => ["many", "most"]
  | _ => []
theorem eb_0 : ErrA.ErrBody PP (sInit 0) (eF 0) (eR 0) where
  ex := ⟨_, _, _, _, _, _, _, _, _, _, _, _, _, ⟨fun _ _ _ _ _ => ⟨_, rfl⟩, rfl, rfl, by decide +kernel, rfl, rfl, rfl, by decide +kernel, by decide +kernel, ⟨_, rfl, rfl⟩, by decide +kernel⟩, ErrA.Sets.nil, rfl⟩
  nd := by decide +kernel
  bind := fun _ _ _ _ _ _ _ _ us hl => match us, hl with | [_, _], _ => rfl
  few := by decide
theorem eb_1 : ErrA.ErrBody PP (sInit 1) (eF 1) (eR 1) where
  ex := ⟨_, _, _, _, _, _, _, _, _, _, _, _, _, ⟨fun _ _ _ _ _ => ⟨_, rfl⟩, rfl, rfl, by decide +kernel, rfl, rfl, rfl, by decide +kernel, by decide +kernel, ⟨_, rfl, rfl⟩, by decide +kernel⟩, ErrA.Sets.nil, rfl⟩
  nd := by decide +kernel
  bind := fun _ _ _ _ _ _ _ _ us hl => match us, hl with | [_, _], _ => rfl
  few := by decide
theorem eb_2 : ErrA.ErrBody PP (sInit 2) (eF 2) (eR 2) where
  ex := ⟨_, _, _, _, _, _, _, _, _, _, _, _, _, ⟨fun _ _ _ _ _ => ⟨_, rfl⟩, rfl, rfl, by decide +kernel, rfl, rfl, rfl, by decide +kernel, by decide +kernel, ⟨_, rfl, rfl⟩, by decide +kernel⟩, ErrA.Sets.nil, rfl⟩
  nd := by decide +kernel
  bind := fun _ _ _ _ _ _ _ _ us hl => match us, hl with | [_, _], _ => rfl
  few := by decide
theorem eb_3 : ErrA.ErrBody PP (sInit 3) (eF 3) (eR 3) where
  ex := ⟨_, _, _, _, _, _, _, _, _, _, _, _, _, ⟨fun _ _ _ _ _ => ⟨_, rfl⟩, rfl, rfl, by decide +kernel, rfl, rfl, rfl, by decide +kernel, by decide +kernel, ⟨_, rfl, rfl⟩, by decide +kernel⟩, ErrA.Sets.cons (ErrA.Sets.cons (ErrA.Sets.nil)), rfl⟩
  nd := by decide +kernel
  bind := fun _ _ _ _ _ _ _ _ us hl => match us, hl with | [_, _, _, _], _ => rfl
  few := by decide
theorem eb_4 : ErrA.ErrBody PP (sInit 4) (eF 4) (eR 4) where
  ex := ⟨_, _, _, _, _, _, _, _, _, _, _, _, _, ⟨fun _ _ _ _ _ => ⟨_, rfl⟩, rfl, rfl, by decide +kernel, rfl, rfl, rfl, by decide +kernel, by decide +kernel, ⟨_, rfl, rfl⟩, by decide +kernel⟩, ErrA.Sets.nil, rfl⟩
  nd := by decide +kernel
  bind := fun _ _ _ _ _ _ _ _ us hl => match us, hl with | [_, _], _ => rfl
  few := by decide
theorem eb_5 : ErrA.ErrBody PP (sInit 5) (eF 5) (eR 5) where
  ex := ⟨_, _, _, _, _, _, _, _, _, _, _, _, _, ⟨fun _ _ _ _ _ => ⟨_, rfl⟩, rfl, rfl, by decide +kernel, rfl, rfl, rfl, by decide +kernel, by decide +kernel, ⟨_, rfl, rfl⟩, by decide +kernel⟩, ErrA.Sets.nil, rfl⟩
  nd := by decide +kernel
  bind := fun _ _ _ _ _ _ _ _ us hl => match us, hl with | [_, _], _ => rfl
  few := by decide
theorem eb_6 : ErrA.ErrBody PP (sInit 6) (eF 6) (eR 6) where
  ex := ⟨_, _, _, _, _, _, _, _, _, _, _, _, _, ⟨fun _ _ _ _ _ => ⟨_, rfl⟩, rfl, rfl, by decide +kernel, rfl, rfl, rfl, by decide +kernel, by decide +kernel, ⟨_, rfl, rfl⟩, by decide +kernel⟩, ErrA.Sets.nil, rfl⟩
  nd := by decide +kernel
  bind := fun _ _ _ _ _ _ _ _ us hl => match us, hl with | [_, _], _ => rfl
  few := by decide
theorem eb_7 : ErrA.ErrBody PP (sInit 7) (eF 7) (eR 7) where
  ex := ⟨_, _, _, _, _, _, _, _, _, _, _, _, _, ⟨fun _ _ _ _ _ => ⟨_, rfl⟩, rfl, rfl, by decide +kernel, rfl, rfl, rfl, by decide +kernel, by decide +kernel, ⟨_, rfl, rfl⟩, by decide +kernel⟩, ErrA.Sets.nil, rfl⟩
  nd := by decide +kernel
  bind := fun _ _ _ _ _ _ _ _ us hl => match us, hl with | [_, _], _ => rfl
  few := by decide
theorem eb_8 : ErrA.ErrBody PP (sInit 8) (eF 8) (eR 8) where
  ex := ⟨_, _, _, _, _, _, _, _, _, _, _, _, _, ⟨fun _ _ _ _ _ => ⟨_, rfl⟩, rfl, rfl, by decide +kernel, rfl, rfl, rfl, by decide +kernel, by decide +kernel, ⟨_, rfl, rfl⟩, by decide +kernel⟩, ErrA.Sets.nil, rfl⟩
  nd := by decide +kernel
  bind := fun _ _ _ _ _ _ _ _ us hl => match us, hl with | [_, _], _ => rfl
  few := by decide
theorem eb_9 : ErrA.ErrBody PP (sInit 9) (eF 9) (eR 9) where
  ex := ⟨_, _, _, _, _, _, _, _, _, _, _, _, _, ⟨fun _ _ _ _ _ => ⟨_, rfl⟩, rfl, rfl, by decide +kernel, rfl, rfl, rfl, by decide +kernel, by decide +kernel, ⟨_, rfl, rfl⟩, by decide +kernel⟩, ErrA.Sets.nil, rfl⟩
  nd := by decide +kernel
  bind := fun _ _ _ _ _ _ _ _ us hl => match us, hl with | [_, _], _ => rfl
  few := by decide
theorem eb_10 : ErrA.ErrBody PP (sInit 10) (eF 10) (eR 10) where
  ex := ⟨_, _, _, _, _, _, _, _, _, _, _, _, _, ⟨fun _ _ _ _ _ => ⟨_, rfl⟩, rfl, rfl, by decide +kernel, rfl, rfl, rfl, by decide +kernel, by decide +kernel, ⟨_, rfl, rfl⟩, by decide +kernel⟩, ErrA.Sets.nil, rfl⟩
  nd := by decide +kernel
  bind := fun _ _ _ _ _ _ _ _ us hl => match us, hl with | [_, _], _ => rfl
  few := by decide
theorem eb_11 : ErrA.ErrBody PP (sInit 11) (eF 11) (eR 11) where
  ex := ⟨_, _, _, _, _, _, _, _, _, _, _, _, _, ⟨fun _ _ _ _ _ => ⟨_, rfl⟩, rfl, rfl, by decide +kernel, rfl, rfl, rfl, by decide +kernel, by decide +kernel, ⟨_, rfl, rfl⟩, by decide +kernel⟩, ErrA.Sets.nil, rfl⟩
  nd := by decide +kernel
  bind := fun _ _ _ _ _ _ _ _ us hl => match us, hl with | [_, _], _ => rfl
  few := by decide
theorem eb_12 : ErrA.ErrBody PP (sInit 12) (eF 12) (eR 12) where
  ex := ⟨_, _, _, _, _, _, _, _, _, _, _, _, _, ⟨fun _ _ _ _ _ => ⟨_, rfl⟩, rfl, rfl, by decide +kernel, rfl, rfl, rfl, by decide +kernel, by decide +kernel, ⟨_, rfl, rfl⟩, by decide +kernel⟩, ErrA.Sets.nil, rfl⟩
  nd := by decide +kernel
  bind := fun _ _ _ _ _ _ _ _ us hl => match us, hl with | [_, _], _ => rfl
  few := by decide
theorem eb_13 : ErrA.ErrBody PP (sInit 13) (eF 13) (eR 13) where
  ex := ⟨_, _, _, _, _, _, _, _, _, _, _, _, _, ⟨fun _ _ _ _ _ => ⟨_, rfl⟩, rfl, rfl, by decide +kernel, rfl, rfl, rfl, by decide +kernel, by decide +kernel, ⟨_, rfl, rfl⟩, by decide +kernel⟩, ErrA.Sets.nil, rfl⟩
  nd := by decide +kernel
  bind := fun _ _ _ _ _ _ _ _ us hl => match us, hl with | [_, _], _ => rfl
  few := by decide
theorem eb_14 : ErrA.ErrBody PP (sInit 14) (eF 14) (eR 14) where
  ex := ⟨_, _, _, _, _, _, _, _, _, _, _, _, _, ⟨fun _ _ _ _ _ => ⟨_, rfl⟩, rfl, rfl, by decide +kernel, rfl, rfl, rfl, by decide +kernel, by decide +kernel, ⟨_, rfl, rfl⟩, by decide +kernel⟩, ErrA.Sets.nil, rfl⟩
  nd := by decide +kernel
  bind := fun _ _ _ _ _ _ _ _ us hl => match us, hl with | [_, _], _ => rfl
  few := by decide
theorem eb_15 : ErrA.ErrBody PP (sInit 15) (eF 15) (eR 15) where
  ex := ⟨_, _, _, _, _, _, _, _, _, _, _, _, _, ⟨fun _ _ _ _ _ => ⟨_, rfl⟩, rfl, rfl, by decide +kernel, rfl, rfl, rfl, by decide +kernel, by decide +kernel, ⟨_, rfl, rfl⟩, by decide +kernel⟩, ErrA.Sets.nil, rfl⟩
  nd := by decide +kernel
  bind := fun _ _ _ _ _ _ _ _ us hl => match us, hl with | [_, _], _ => rfl
  few := by decide
theorem eb_16 : ErrA.ErrBody PP (sInit 16) (eF 16) (eR 16) where
  ex := ⟨_, _, _, _, _, _, _, _, _, _, _, _, _, ⟨fun _ _ _ _ _ => ⟨_, rfl⟩, rfl, rfl, by decide +kernel, rfl, rfl, rfl, by decide +kernel, by decide +kernel, ⟨_, rfl, rfl⟩, by decide +kernel⟩, ErrA.Sets.nil, rfl⟩
  nd := by decide +kernel
  bind := fun _ _ _ _ _ _ _ _ us hl => match us, hl with | [_, _], _ => rfl
  few := by decide
theorem eb_17 : ErrA.ErrBody PP (sInit 17) (eF 17) (eR 17) where
  ex := ⟨_, _, _, _, _, _, _, _, _, _, _, _, _, ⟨fun _ _ _ _ _ => ⟨_, rfl⟩, rfl, rfl, by decide +kernel, rfl, rfl, rfl, by decide +kernel, by decide +kernel, ⟨_, rfl, rfl⟩, by decide +kernel⟩, ErrA.Sets.nil, rfl⟩
  nd := by decide +kernel
  bind := fun _ _ _ _ _ _ _ _ us hl => match us, hl with | [_, _], _ => rfl
  few := by decide
end K00

set_option Elab.async false
set_option linter.all false
set_option maxRecDepth 100000
set_option maxHeartbeats 4000000
/-! Part G: the defs that raise -/
namespace K00
open PySem L2
abbrev sR0 : Stmt := top 24
abbrev sR1 : Stmt := top 25
abbrev sR2 : Stmt := top 26
abbrev sRa : Stmt := top 27
/-- one error of the program -/
structure EF (K : PySem.W.Frag) (mg : Str → Option Value) (i : Nat) (C fI cc cda : Addr) : Prop where
  g : mg (eN i) = some (.ref C)
  t : ErrA.ErrTxt PP K C fI cc cda (eQ i) (sInit i)
  n : ∀ g ∈ eF i :: eR i, PySem.W.findIn K (.ref C) g = some none
  x : ExI K C
  xf : XfC K C
/-- all of them -/
structure Errs (K : PySem.W.Frag) (mg : Str → Option Value) (C fI cc cda : Nat → Addr) (CB : Addr) : Prop where
  f : ∀ i, i < 18 → EF K mg i (C i) (fI i) (cc i) (cda i)
  e : ∀ i j, i < 18 → j < 18 → PySem.W.exmOne K (.ref (C i)) (.ref (C j)) = some (decide (i = j))
  b : ∀ i, i < 18 → PySem.W.exmOne K (.ref (C i)) (.ref CB) = some true
  k : ∀ i j, i < 18 → j < 18 → PySem.W.kitOne K (.ref (C i)) (.ref (C j)) = some (decide (i = j))
  v : ∀ i, i < 18 → PySem.W.kitOne K (.ref (C i)) (.type "ValueError") = some true
  gB : mg "BlockError" = some (.ref CB)
  gV : mg "ValueError" = none
  gI : mg "isinstance" = none
def eFlds (i : Nat) (a b c : V) : List (Str × V) := ((eF i :: eR i).zip [a, b, c]).reverse
theorem ifF {c : Bool} {A B : Prop} (hc : c = false) (h : B) : if c = true then A else B := by
  rw [hc, if_neg Bool.false_ne_true]
  exact h
theorem ifT {c : Bool} {A B : Prop} (hc : c = true) (h : A) : if c = true then A else B := by
  rw [if_pos hc]
  exact h
/-- for lo ≤ i < hi: the i-th error with its fields -/
def spRaise (lo hi : Nat) (C : Nat → Addr) : Sp := fun vs H Q E => ∃ (i : Nat) (a b c : V), vs = [.int i, a, b, c] ∧ lo ≤ i ∧ i < hi ∧ ∀ d, H d = none → E (.ref (C i)) (some d) (upd H d (.xd (eFlds i a b c)))
section
variable {w : World} {K : PySem.W.Frag} {mg : Str → Option Value} {base : Heap} {C fI cc cda : Nat → Addr} {CB : Addr}
theorem scR0 : FnScope ["_law_k", "_law_a", "_law_b", "_law_c"] ["_law_k", "_law_a", "_law_b", "_law_c"] (defScope sR0) := ⟨rfl, rfl, rfl, by decide +kernel, rfl, by decide +kernel, by decide +kernel⟩
theorem scR1 : FnScope ["_law_k", "_law_a", "_law_b", "_law_c"] ["_law_k", "_law_a", "_law_b", "_law_c"] (defScope sR1) := ⟨rfl, rfl, rfl, by decide +kernel, rfl, by decide +kernel, by decide +kernel⟩
theorem scR2 : FnScope ["_law_k", "_law_a", "_law_b", "_law_c"] ["_law_k", "_law_a", "_law_b", "_law_c"] (defScope sR2) := ⟨rfl, rfl, rfl, by decide +kernel, rfl, by decide +kernel, by decide +kernel⟩
theorem scRa : FnScope ["_law_k", "_law_a", "_law_b", "_law_c"] ["_law_k", "_law_a", "_law_b", "_law_c"] (defScope sRa) := ⟨rfl, rfl, rfl, by decide +kernel, rfl, by decide +kernel, by decide +kernel⟩
theorem ok_r0 {f : Addr} {fd : FuncData} (F : Fun K "_law_raised_0" "_law_raised_0" sR0 f fd) (T : Errs K mg C fI cc cda CB) : FnOk PP w K mg base (L2.CX PP w) 1 f fd ["_law_k", "_law_a", "_law_b", "_law_c"] (spRaise 0 8 C) := by
  refine F.okX scR0 (fun vs H Q E h => ?_) (fun cdv A outer s H vs Q E hr h => ?_)
  · obtain ⟨i, a, b, c, rfl, _⟩ := h
    rfl
  · obtain ⟨i, a, b, c, rfl, hlo, hhi, hE⟩ := h
    refine ⟨_, (pss_cons (ps_if (pt_cmpR op_eq (pv 0) pe_int (nomark _)) (pss_one (ps_raiseErr rfl (T.f 0 (by decide)).t eb_0 (T.f 0 (by decide)).n hr (T.f 0 (by decide)).g (takes_of rfl rfl rfl rfl) (by exact (pa_cons (pv 1) pa_nil)))) pss_nil)
      (pss_cons (ps_if (pt_cmpR op_eq (pv 0) pe_int (nomark _)) (pss_one (ps_raiseErr rfl (T.f 1 (by decide)).t eb_1 (T.f 1 (by decide)).n hr (T.f 1 (by decide)).g (takes_of rfl rfl rfl rfl) (by exact (pa_cons (pv 1) pa_nil)))) pss_nil)
      (pss_cons (ps_if (pt_cmpR op_eq (pv 0) pe_int (nomark _)) (pss_one (ps_raiseErr rfl (T.f 2 (by decide)).t eb_2 (T.f 2 (by decide)).n hr (T.f 2 (by decide)).g (takes_of rfl rfl rfl rfl) (by exact (pa_cons (pv 1) pa_nil)))) pss_nil)
      (pss_cons (ps_if (pt_cmpR op_eq (pv 0) pe_int (nomark _)) (pss_one (ps_raiseErr rfl (T.f 3 (by decide)).t eb_3 (T.f 3 (by decide)).n hr (T.f 3 (by decide)).g (takes_of rfl rfl rfl rfl) (by exact (pa_cons (pv 1) (pa_cons (pv 2) (pa_cons (pv 3) pa_nil)))))) pss_nil)
      (pss_cons (ps_if (pt_cmpR op_eq (pv 0) pe_int (nomark _)) (pss_one (ps_raiseErr rfl (T.f 4 (by decide)).t eb_4 (T.f 4 (by decide)).n hr (T.f 4 (by decide)).g (takes_of rfl rfl rfl rfl) (by exact (pa_cons (pv 1) pa_nil)))) pss_nil)
      (pss_cons (ps_if (pt_cmpR op_eq (pv 0) pe_int (nomark _)) (pss_one (ps_raiseErr rfl (T.f 5 (by decide)).t eb_5 (T.f 5 (by decide)).n hr (T.f 5 (by decide)).g (takes_of rfl rfl rfl rfl) (by exact (pa_cons (pv 1) pa_nil)))) pss_nil)
      (pss_cons (ps_if (pt_cmpR op_eq (pv 0) pe_int (nomark _)) (pss_one (ps_raiseErr rfl (T.f 6 (by decide)).t eb_6 (T.f 6 (by decide)).n hr (T.f 6 (by decide)).g (takes_of rfl rfl rfl rfl) (by exact (pa_cons (pv 1) pa_nil)))) pss_nil)
      (pss_cons (ps_if (pt_cmpR op_eq (pv 0) pe_int (nomark _)) (pss_one (ps_raiseErr rfl (T.f 7 (by decide)).t eb_7 (T.f 7 (by decide)).n hr (T.f 7 (by decide)).g (takes_of rfl rfl rfl rfl) (by exact (pa_cons (pv 1) pa_nil)))) pss_nil)
      (pss_one (ps_ret pe_non)))))))))), ?_⟩
    have hi : i = 0 ∨ i = 1 ∨ i = 2 ∨ i = 3 ∨ i = 4 ∨ i = 5 ∨ i = 6 ∨ i = 7 := by omega
    rcases hi with rfl | rfl | rfl | rfl | rfl | rfl | rfl | rfl
    · exact ⟨_, rfl, rfl, _, rfl, ifT (by decide) ⟨_, rfl, rfl, fun d hd => hE d hd⟩⟩
    · refine ⟨_, rfl, rfl, _, rfl, ifF (by decide) ?_⟩
      exact ⟨_, rfl, rfl, _, rfl, ifT (by decide) ⟨_, rfl, rfl, fun d hd => hE d hd⟩⟩
    · refine ⟨_, rfl, rfl, _, rfl, ifF (by decide) ?_⟩
      refine ⟨_, rfl, rfl, _, rfl, ifF (by decide) ?_⟩
      exact ⟨_, rfl, rfl, _, rfl, ifT (by decide) ⟨_, rfl, rfl, fun d hd => hE d hd⟩⟩
    · refine ⟨_, rfl, rfl, _, rfl, ifF (by decide) ?_⟩
      refine ⟨_, rfl, rfl, _, rfl, ifF (by decide) ?_⟩
      refine ⟨_, rfl, rfl, _, rfl, ifF (by decide) ?_⟩
      exact ⟨_, rfl, rfl, _, rfl, ifT (by decide) ⟨_, rfl, _, rfl, _, rfl, rfl, fun d hd => hE d hd⟩⟩
    · refine ⟨_, rfl, rfl, _, rfl, ifF (by decide) ?_⟩
      refine ⟨_, rfl, rfl, _, rfl, ifF (by decide) ?_⟩
      refine ⟨_, rfl, rfl, _, rfl, ifF (by decide) ?_⟩
      refine ⟨_, rfl, rfl, _, rfl, ifF (by decide) ?_⟩
      exact ⟨_, rfl, rfl, _, rfl, ifT (by decide) ⟨_, rfl, rfl, fun d hd => hE d hd⟩⟩
    · refine ⟨_, rfl, rfl, _, rfl, ifF (by decide) ?_⟩
      refine ⟨_, rfl, rfl, _, rfl, ifF (by decide) ?_⟩
      refine ⟨_, rfl, rfl, _, rfl, ifF (by decide) ?_⟩
      refine ⟨_, rfl, rfl, _, rfl, ifF (by decide) ?_⟩
      refine ⟨_, rfl, rfl, _, rfl, ifF (by decide) ?_⟩
      exact ⟨_, rfl, rfl, _, rfl, ifT (by decide) ⟨_, rfl, rfl, fun d hd => hE d hd⟩⟩
    · refine ⟨_, rfl, rfl, _, rfl, ifF (by decide) ?_⟩
      refine ⟨_, rfl, rfl, _, rfl, ifF (by decide) ?_⟩
      refine ⟨_, rfl, rfl, _, rfl, ifF (by decide) ?_⟩
      refine ⟨_, rfl, rfl, _, rfl, ifF (by decide) ?_⟩
      refine ⟨_, rfl, rfl, _, rfl, ifF (by decide) ?_⟩
      refine ⟨_, rfl, rfl, _, rfl, ifF (by decide) ?_⟩
      exact ⟨_, rfl, rfl, _, rfl, ifT (by decide) ⟨_, rfl, rfl, fun d hd => hE d hd⟩⟩
    · refine ⟨_, rfl, rfl, _, rfl, ifF (by decide) ?_⟩
      refine ⟨_, rfl, rfl, _, rfl, ifF (by decide) ?_⟩
      refine ⟨_, rfl, rfl, _, rfl, ifF (by decide) ?_⟩
      refine ⟨_, rfl, rfl, _, rfl, ifF (by decide) ?_⟩
      refine ⟨_, rfl, rfl, _, rfl, ifF (by decide) ?_⟩
      refine ⟨_, rfl, rfl, _, rfl, ifF (by decide) ?_⟩
      refine ⟨_, rfl, rfl, _, rfl, ifF (by decide) ?_⟩
      exact ⟨_, rfl, rfl, _, rfl, ifT (by decide) ⟨_, rfl, rfl, fun d hd => hE d hd⟩⟩
theorem ok_r1 {f : Addr} {fd : FuncData} (F : Fun K "_law_raised_1" "_law_raised_1" sR1 f fd) (T : Errs K mg C fI cc cda CB) : FnOk PP w K mg base (L2.CX PP w) 1 f fd ["_law_k", "_law_a", "_law_b", "_law_c"] (spRaise 8 16 C) := by
  refine F.okX scR1 (fun vs H Q E h => ?_) (fun cdv A outer s H vs Q E hr h => ?_)
  · obtain ⟨i, a, b, c, rfl, _⟩ := h
    rfl
  · obtain ⟨i, a, b, c, rfl, hlo, hhi, hE⟩ := h
    refine ⟨_, (pss_cons (ps_if (pt_cmpR op_eq (pv 0) pe_int (nomark _)) (pss_one (ps_raiseErr rfl (T.f 8 (by decide)).t eb_8 (T.f 8 (by decide)).n hr (T.f 8 (by decide)).g (takes_of rfl rfl rfl rfl) (by exact (pa_cons (pv 1) pa_nil)))) pss_nil)
      (pss_cons (ps_if (pt_cmpR op_eq (pv 0) pe_int (nomark _)) (pss_one (ps_raiseErr rfl (T.f 9 (by decide)).t eb_9 (T.f 9 (by decide)).n hr (T.f 9 (by decide)).g (takes_of rfl rfl rfl rfl) (by exact (pa_cons (pv 1) pa_nil)))) pss_nil)
      (pss_cons (ps_if (pt_cmpR op_eq (pv 0) pe_int (nomark _)) (pss_one (ps_raiseErr rfl (T.f 10 (by decide)).t eb_10 (T.f 10 (by decide)).n hr (T.f 10 (by decide)).g (takes_of rfl rfl rfl rfl) (by exact (pa_cons (pv 1) pa_nil)))) pss_nil)
      (pss_cons (ps_if (pt_cmpR op_eq (pv 0) pe_int (nomark _)) (pss_one (ps_raiseErr rfl (T.f 11 (by decide)).t eb_11 (T.f 11 (by decide)).n hr (T.f 11 (by decide)).g (takes_of rfl rfl rfl rfl) (by exact (pa_cons (pv 1) pa_nil)))) pss_nil)
      (pss_cons (ps_if (pt_cmpR op_eq (pv 0) pe_int (nomark _)) (pss_one (ps_raiseErr rfl (T.f 12 (by decide)).t eb_12 (T.f 12 (by decide)).n hr (T.f 12 (by decide)).g (takes_of rfl rfl rfl rfl) (by exact (pa_cons (pv 1) pa_nil)))) pss_nil)
      (pss_cons (ps_if (pt_cmpR op_eq (pv 0) pe_int (nomark _)) (pss_one (ps_raiseErr rfl (T.f 13 (by decide)).t eb_13 (T.f 13 (by decide)).n hr (T.f 13 (by decide)).g (takes_of rfl rfl rfl rfl) (by exact (pa_cons (pv 1) pa_nil)))) pss_nil)
      (pss_cons (ps_if (pt_cmpR op_eq (pv 0) pe_int (nomark _)) (pss_one (ps_raiseErr rfl (T.f 14 (by decide)).t eb_14 (T.f 14 (by decide)).n hr (T.f 14 (by decide)).g (takes_of rfl rfl rfl rfl) (by exact (pa_cons (pv 1) pa_nil)))) pss_nil)
      (pss_cons (ps_if (pt_cmpR op_eq (pv 0) pe_int (nomark _)) (pss_one (ps_raiseErr rfl (T.f 15 (by decide)).t eb_15 (T.f 15 (by decide)).n hr (T.f 15 (by decide)).g (takes_of rfl rfl rfl rfl) (by exact (pa_cons (pv 1) pa_nil)))) pss_nil)
      (pss_one (ps_ret pe_non)))))))))), ?_⟩
    have hi : i = 8 ∨ i = 9 ∨ i = 10 ∨ i = 11 ∨ i = 12 ∨ i = 13 ∨ i = 14 ∨ i = 15 := by omega
    rcases hi with rfl | rfl | rfl | rfl | rfl | rfl | rfl | rfl
    · exact ⟨_, rfl, rfl, _, rfl, ifT (by decide) ⟨_, rfl, rfl, fun d hd => hE d hd⟩⟩
    · refine ⟨_, rfl, rfl, _, rfl, ifF (by decide) ?_⟩
      exact ⟨_, rfl, rfl, _, rfl, ifT (by decide) ⟨_, rfl, rfl, fun d hd => hE d hd⟩⟩
    · refine ⟨_, rfl, rfl, _, rfl, ifF (by decide) ?_⟩
      refine ⟨_, rfl, rfl, _, rfl, ifF (by decide) ?_⟩
      exact ⟨_, rfl, rfl, _, rfl, ifT (by decide) ⟨_, rfl, rfl, fun d hd => hE d hd⟩⟩
    · refine ⟨_, rfl, rfl, _, rfl, ifF (by decide) ?_⟩
      refine ⟨_, rfl, rfl, _, rfl, ifF (by decide) ?_⟩
      refine ⟨_, rfl, rfl, _, rfl, ifF (by decide) ?_⟩
      exact ⟨_, rfl, rfl, _, rfl, ifT (by decide) ⟨_, rfl, rfl, fun d hd => hE d hd⟩⟩
    · refine ⟨_, rfl, rfl, _, rfl, ifF (by decide) ?_⟩
      refine ⟨_, rfl, rfl, _, rfl, ifF (by decide) ?_⟩
      refine ⟨_, rfl, rfl, _, rfl, ifF (by decide) ?_⟩
      refine ⟨_, rfl, rfl, _, rfl, ifF (by decide) ?_⟩
      exact ⟨_, rfl, rfl, _, rfl, ifT (by decide) ⟨_, rfl, rfl, fun d hd => hE d hd⟩⟩
    · refine ⟨_, rfl, rfl, _, rfl, ifF (by decide) ?_⟩
      refine ⟨_, rfl, rfl, _, rfl, ifF (by decide) ?_⟩
      refine ⟨_, rfl, rfl, _, rfl, ifF (by decide) ?_⟩
      refine ⟨_, rfl, rfl, _, rfl, ifF (by decide) ?_⟩
      refine ⟨_, rfl, rfl, _, rfl, ifF (by decide) ?_⟩
      exact ⟨_, rfl, rfl, _, rfl, ifT (by decide) ⟨_, rfl, rfl, fun d hd => hE d hd⟩⟩
    · refine ⟨_, rfl, rfl, _, rfl, ifF (by decide) ?_⟩
      refine ⟨_, rfl, rfl, _, rfl, ifF (by decide) ?_⟩
      refine ⟨_, rfl, rfl, _, rfl, ifF (by decide) ?_⟩
      refine ⟨_, rfl, rfl, _, rfl, ifF (by decide) ?_⟩
      refine ⟨_, rfl, rfl, _, rfl, ifF (by decide) ?_⟩
      refine ⟨_, rfl, rfl, _, rfl, ifF (by decide) ?_⟩
      exact ⟨_, rfl, rfl, _, rfl, ifT (by decide) ⟨_, rfl, rfl, fun d hd => hE d hd⟩⟩
    · refine ⟨_, rfl, rfl, _, rfl, ifF (by decide) ?_⟩
      refine ⟨_, rfl, rfl, _, rfl, ifF (by decide) ?_⟩
      refine ⟨_, rfl, rfl, _, rfl, ifF (by decide) ?_⟩
      refine ⟨_, rfl, rfl, _, rfl, ifF (by decide) ?_⟩
      refine ⟨_, rfl, rfl, _, rfl, ifF (by decide) ?_⟩
      refine ⟨_, rfl, rfl, _, rfl, ifF (by decide) ?_⟩
      refine ⟨_, rfl, rfl, _, rfl, ifF (by decide) ?_⟩
      exact ⟨_, rfl, rfl, _, rfl, ifT (by decide) ⟨_, rfl, rfl, fun d hd => hE d hd⟩⟩
theorem ok_r2 {f : Addr} {fd : FuncData} (F : Fun K "_law_raised_2" "_law_raised_2" sR2 f fd) (T : Errs K mg C fI cc cda CB) : FnOk PP w K mg base (L2.CX PP w) 1 f fd ["_law_k", "_law_a", "_law_b", "_law_c"] (spRaise 16 18 C) := by
  refine F.okX scR2 (fun vs H Q E h => ?_) (fun cdv A outer s H vs Q E hr h => ?_)
  · obtain ⟨i, a, b, c, rfl, _⟩ := h
    rfl
  · obtain ⟨i, a, b, c, rfl, hlo, hhi, hE⟩ := h
    refine ⟨_, (pss_cons (ps_if (pt_cmpR op_eq (pv 0) pe_int (nomark _)) (pss_one (ps_raiseErr rfl (T.f 16 (by decide)).t eb_16 (T.f 16 (by decide)).n hr (T.f 16 (by decide)).g (takes_of rfl rfl rfl rfl) (by exact (pa_cons (pv 1) pa_nil)))) pss_nil)
      (pss_cons (ps_if (pt_cmpR op_eq (pv 0) pe_int (nomark _)) (pss_one (ps_raiseErr rfl (T.f 17 (by decide)).t eb_17 (T.f 17 (by decide)).n hr (T.f 17 (by decide)).g (takes_of rfl rfl rfl rfl) (by exact (pa_cons (pv 1) pa_nil)))) pss_nil)
      (pss_one (ps_ret pe_non)))), ?_⟩
    have hi : i = 16 ∨ i = 17 := by omega
    rcases hi with rfl | rfl
    · exact ⟨_, rfl, rfl, _, rfl, ifT (by decide) ⟨_, rfl, rfl, fun d hd => hE d hd⟩⟩
    · refine ⟨_, rfl, rfl, _, rfl, ifF (by decide) ?_⟩
      exact ⟨_, rfl, rfl, _, rfl, ifT (by decide) ⟨_, rfl, rfl, fun d hd => hE d hd⟩⟩
theorem ok_ra {f f0 f1 f2 : Addr} {fd fd0 fd1 fd2 : FuncData} (F : Fun K "_law_raised" "_law_raised" sRa f fd) (T : Errs K mg C fI cc cda CB)
    (F0 : Fun K "_law_raised_0" "_law_raised_0" sR0 f0 fd0) (b0 : Binds K fd0 ["_law_k", "_law_a", "_law_b", "_law_c"] []) (g0 : mg "_law_raised_0" = some (.ref f0))
    (F1 : Fun K "_law_raised_1" "_law_raised_1" sR1 f1 fd1) (b1 : Binds K fd1 ["_law_k", "_law_a", "_law_b", "_law_c"] []) (g1 : mg "_law_raised_1" = some (.ref f1))
    (F2 : Fun K "_law_raised_2" "_law_raised_2" sR2 f2 fd2) (b2 : Binds K fd2 ["_law_k", "_law_a", "_law_b", "_law_c"] []) (g2 : mg "_law_raised_2" = some (.ref f2)) :
    FnOk PP w K mg base (L2.CX PP w) 2 f fd ["_law_k", "_law_a", "_law_b", "_law_c"] (spRaise 0 18 C) := by
  have G0 : FnOk PP w K mg base (L2.CX PP w) 1 f0 fd0 ["_law_k", "_law_a", "_law_b", "_law_c"] (spRaise 0 8 C) := ok_r0 F0 T
  have G1 : FnOk PP w K mg base (L2.CX PP w) 1 f1 fd1 ["_law_k", "_law_a", "_law_b", "_law_c"] (spRaise 8 16 C) := ok_r1 F1 T
  have G2 : FnOk PP w K mg base (L2.CX PP w) 1 f2 fd2 ["_law_k", "_law_a", "_law_b", "_law_c"] (spRaise 16 18 C) := ok_r2 F2 T
  refine F.okX scRa (fun vs H Q E h => ?_) (fun cdv A outer s H vs Q E hr h => ?_)
  · obtain ⟨i, a, b, c, rfl, _⟩ := h
    rfl
  · obtain ⟨i, a, b, c, rfl, hlo, hhi, hE⟩ := h
    refine ⟨_, pss_cons (ps_if (pt_cmpR op_lt (pv 0) pe_int (nomark _)) (pss_one (ps_ret (pe_callS G0 hr rfl g0 F0.kp b0 (fun σ => passAt (takes_of rfl rfl rfl rfl) σ) (by exact (pa_cons (pv 0) (pa_cons (pv 1) (pa_cons (pv 2) (pa_cons (pv 3) pa_nil)))))))) pss_nil)
      (pss_cons (ps_if (pt_cmpR op_lt (pv 0) pe_int (nomark _)) (pss_one (ps_ret (pe_callS G1 hr rfl g1 F1.kp b1 (fun σ => passAt (takes_of rfl rfl rfl rfl) σ) (by exact (pa_cons (pv 0) (pa_cons (pv 1) (pa_cons (pv 2) (pa_cons (pv 3) pa_nil)))))))) pss_nil)
      (pss_one (ps_ret (pe_callS G2 hr rfl g2 F2.kp b2 (fun σ => passAt (takes_of rfl rfl rfl rfl) σ) (by exact (pa_cons (pv 0) (pa_cons (pv 1) (pa_cons (pv 2) (pa_cons (pv 3) pa_nil))))))))), ?_⟩
    refine ⟨_, rfl, _, _, rfl, rfl, _, rfl, ite2 (fun h8 => ?_) (fun h8 => ?_)⟩
    · exact ⟨_, rfl, _, rfl, _, rfl, _, rfl, i, a, b, c, rfl, Nat.zero_le _, by have := of_decide_eq_true h8; omega, fun d hd => hE d hd⟩
    · have h8' : ¬ ((i : Int) < 8) := fun z => h8 (decide_eq_true z)
      refine ⟨_, rfl, _, _, rfl, rfl, _, rfl, ite2 (fun h16 => ?_) (fun h16 => ?_)⟩
      · exact ⟨_, rfl, _, rfl, _, rfl, _, rfl, i, a, b, c, rfl, by omega, by have := of_decide_eq_true h16; omega, fun d hd => hE d hd⟩
      · have h16' : ¬ ((i : Int) < 16) := fun z => h16 (decide_eq_true z)
        exact ⟨_, rfl, _, rfl, _, rfl, _, rfl, i, a, b, c, rfl, by omega, hhi, fun d hd => hE d hd⟩
end
end K00

set_option Elab.async false
set_option linter.all false
set_option maxRecDepth 100000
set_option maxHeartbeats 8000000
/-! Part H: which error it is, told of the caught one -/
namespace K00
open PySem L2
abbrev sKi : Stmt := top 28
abbrev sCa : Stmt := top 29
theorem step {H G : Hp} {l m : Addr} {o o' : HO} (s : Same H G) (k : G m = none) (n : upd G m o l = none) : Same H (upd (upd G m o) l o') ∧ upd (upd G m o) l o' l = some o' := ⟨(s.trans (Same.new k)).trans (Same.new n), upd_same⟩
def isK (i : Nat) : List V := (List.range 18).map fun j => V.bl (decide (i = j))
/-- of the i-th error: which of the classes it is of -/
def spKinds (C : Nat → Addr) : SpP := fun p cls d vs H Q _ => ∃ (i : Nat) (dd : Addr) (fs : List (Str × V)), i < 18 ∧ vs = [.ref p] ∧ cls = .ref (C i) ∧ d = some dd ∧ H dd = some (.xd fs) ∧
  ∀ (l : Addr) (H' : Hp), Same H H' → H' l = some (.lst (isK i)) → Q (.ref l) H'
def spCaught : Sp := fun vs H Q _ => ∃ (i : Nat) (a b c : V), vs = [.int i, a, b, c] ∧ i < 18 ∧ ∀ (l : Addr) (H' : Hp), Same H H' → H' l = some (.lst (.bl true :: isK i)) → Q (.ref l) H'
section
variable {w : World} {K : PySem.W.Frag} {mg : Str → Option Value} {base : Heap} {C fI cc cda : Nat → Addr} {CB : Addr}
theorem scKi : FnScope ["_law_e", "_law_found"] ["_law_e"] (defScope sKi) := ⟨rfl, rfl, rfl, by decide +kernel, rfl, by decide +kernel, by decide +kernel⟩
theorem scCa : FnScope ["_law_k", "_law_a", "_law_b", "_law_c", "_law_e"] ["_law_k", "_law_a", "_law_b", "_law_c"] (defScope sCa) := ⟨rfl, rfl, rfl, by decide +kernel, rfl, by decide +kernel, by decide +kernel⟩
theorem ok_ki {f : Addr} {fd : FuncData} (F : Fun K "_law_kinds_of" "_law_kinds_of" sKi f fd) (T : Errs K mg C fI cc cda CB) : FnPin PP w K mg base 1 f fd ["_law_e"] (spKinds C) := by
  refine F.okPin scKi (fun p cls d vs H Q E h => ?_) (fun cdv A outer s H vs Q E p cls d hz hf hr h => ?_)
  · obtain ⟨i, dd, fs, _, rfl, _⟩ := h
    rfl
  · obtain ⟨i, dd, fs, hi, rfl, ec, ed, hd, k⟩ := h
    refine ⟨_, pss_cons (ps_set (i := 1) scKi.nd rfl (Or.inl rfl) (pe_lst (pa_cons (pe_callB (call_isPin (List.mem_singleton.mpr rfl) hz hf) (by rfl) T.gI (by decide +kernel) (pa_cons (pv 0) (pa_cons (pe_glob (v := .ref (C 0)) (by rfl) (T.f 0 (by decide)).g rfl) pa_nil))) (pa_cons (pe_callB (call_isPin (List.mem_singleton.mpr rfl) hz hf) (by rfl) T.gI (by decide +kernel) (pa_cons (pv 0) (pa_cons (pe_glob (v := .ref (C 1)) (by rfl) (T.f 1 (by decide)).g rfl) pa_nil))) pa_nil))))
      (pss_cons (ps_set (i := 1) scKi.nd rfl (Or.inl rfl) (pe_op op_cat (pv 1) (pe_lst (pa_cons (pe_callB (call_isPin (List.mem_singleton.mpr rfl) hz hf) (by rfl) T.gI (by decide +kernel) (pa_cons (pv 0) (pa_cons (pe_glob (v := .ref (C 2)) (by rfl) (T.f 2 (by decide)).g rfl) pa_nil))) (pa_cons (pe_callB (call_isPin (List.mem_singleton.mpr rfl) hz hf) (by rfl) T.gI (by decide +kernel) (pa_cons (pv 0) (pa_cons (pe_glob (v := .ref (C 3)) (by rfl) (T.f 3 (by decide)).g rfl) pa_nil))) pa_nil)))))
      (pss_cons (ps_set (i := 1) scKi.nd rfl (Or.inl rfl) (pe_op op_cat (pv 1) (pe_lst (pa_cons (pe_callB (call_isPin (List.mem_singleton.mpr rfl) hz hf) (by rfl) T.gI (by decide +kernel) (pa_cons (pv 0) (pa_cons (pe_glob (v := .ref (C 4)) (by rfl) (T.f 4 (by decide)).g rfl) pa_nil))) (pa_cons (pe_callB (call_isPin (List.mem_singleton.mpr rfl) hz hf) (by rfl) T.gI (by decide +kernel) (pa_cons (pv 0) (pa_cons (pe_glob (v := .ref (C 5)) (by rfl) (T.f 5 (by decide)).g rfl) pa_nil))) pa_nil)))))
      (pss_cons (ps_set (i := 1) scKi.nd rfl (Or.inl rfl) (pe_op op_cat (pv 1) (pe_lst (pa_cons (pe_callB (call_isPin (List.mem_singleton.mpr rfl) hz hf) (by rfl) T.gI (by decide +kernel) (pa_cons (pv 0) (pa_cons (pe_glob (v := .ref (C 6)) (by rfl) (T.f 6 (by decide)).g rfl) pa_nil))) (pa_cons (pe_callB (call_isPin (List.mem_singleton.mpr rfl) hz hf) (by rfl) T.gI (by decide +kernel) (pa_cons (pv 0) (pa_cons (pe_glob (v := .ref (C 7)) (by rfl) (T.f 7 (by decide)).g rfl) pa_nil))) pa_nil)))))
      (pss_cons (ps_set (i := 1) scKi.nd rfl (Or.inl rfl) (pe_op op_cat (pv 1) (pe_lst (pa_cons (pe_callB (call_isPin (List.mem_singleton.mpr rfl) hz hf) (by rfl) T.gI (by decide +kernel) (pa_cons (pv 0) (pa_cons (pe_glob (v := .ref (C 8)) (by rfl) (T.f 8 (by decide)).g rfl) pa_nil))) (pa_cons (pe_callB (call_isPin (List.mem_singleton.mpr rfl) hz hf) (by rfl) T.gI (by decide +kernel) (pa_cons (pv 0) (pa_cons (pe_glob (v := .ref (C 9)) (by rfl) (T.f 9 (by decide)).g rfl) pa_nil))) pa_nil)))))
      (pss_cons (ps_set (i := 1) scKi.nd rfl (Or.inl rfl) (pe_op op_cat (pv 1) (pe_lst (pa_cons (pe_callB (call_isPin (List.mem_singleton.mpr rfl) hz hf) (by rfl) T.gI (by decide +kernel) (pa_cons (pv 0) (pa_cons (pe_glob (v := .ref (C 10)) (by rfl) (T.f 10 (by decide)).g rfl) pa_nil))) (pa_cons (pe_callB (call_isPin (List.mem_singleton.mpr rfl) hz hf) (by rfl) T.gI (by decide +kernel) (pa_cons (pv 0) (pa_cons (pe_glob (v := .ref (C 11)) (by rfl) (T.f 11 (by decide)).g rfl) pa_nil))) pa_nil)))))
      (pss_cons (ps_set (i := 1) scKi.nd rfl (Or.inl rfl) (pe_op op_cat (pv 1) (pe_lst (pa_cons (pe_callB (call_isPin (List.mem_singleton.mpr rfl) hz hf) (by rfl) T.gI (by decide +kernel) (pa_cons (pv 0) (pa_cons (pe_glob (v := .ref (C 12)) (by rfl) (T.f 12 (by decide)).g rfl) pa_nil))) (pa_cons (pe_callB (call_isPin (List.mem_singleton.mpr rfl) hz hf) (by rfl) T.gI (by decide +kernel) (pa_cons (pv 0) (pa_cons (pe_glob (v := .ref (C 13)) (by rfl) (T.f 13 (by decide)).g rfl) pa_nil))) pa_nil)))))
      (pss_cons (ps_set (i := 1) scKi.nd rfl (Or.inl rfl) (pe_op op_cat (pv 1) (pe_lst (pa_cons (pe_callB (call_isPin (List.mem_singleton.mpr rfl) hz hf) (by rfl) T.gI (by decide +kernel) (pa_cons (pv 0) (pa_cons (pe_glob (v := .ref (C 14)) (by rfl) (T.f 14 (by decide)).g rfl) pa_nil))) (pa_cons (pe_callB (call_isPin (List.mem_singleton.mpr rfl) hz hf) (by rfl) T.gI (by decide +kernel) (pa_cons (pv 0) (pa_cons (pe_glob (v := .ref (C 15)) (by rfl) (T.f 15 (by decide)).g rfl) pa_nil))) pa_nil)))))
      (pss_cons (ps_set (i := 1) scKi.nd rfl (Or.inl rfl) (pe_op op_cat (pv 1) (pe_lst (pa_cons (pe_callB (call_isPin (List.mem_singleton.mpr rfl) hz hf) (by rfl) T.gI (by decide +kernel) (pa_cons (pv 0) (pa_cons (pe_glob (v := .ref (C 16)) (by rfl) (T.f 16 (by decide)).g rfl) pa_nil))) (pa_cons (pe_callB (call_isPin (List.mem_singleton.mpr rfl) hz hf) (by rfl) T.gI (by decide +kernel) (pa_cons (pv 0) (pa_cons (pe_glob (v := .ref (C 17)) (by rfl) (T.f 17 (by decide)).g rfl) pa_nil))) pa_nil)))))
      (pss_one (ps_ret (pv 1))))))))))), ?_⟩
    have X := (T.f i hi).x
    refine ⟨_, rfl, C i, dd, .ref (C 0), .ref (C 0), _, fs, ec, ed, X, rfl, fun u z => z, T.k i 0 hi (by decide), Same.refl H _ _ hd, _, rfl, C i, dd, .ref (C 1), .ref (C 1), _, fs, ec, ed, X, rfl, fun u z => z, T.k i 1 hi (by decide), Same.refl H _ _ hd, (by show 2 ≤ sizeLine; decide), fun l0 n0 => ?_⟩
    have s0 : Same H _ := Same.new (o := .lst [.bl (decide (i = 0)), .bl (decide (i = 1))]) n0
    have f0 : upd H l0 (.lst [.bl (decide (i = 0)), .bl (decide (i = 1))]) l0 = some (.lst [.bl (decide (i = 0)), .bl (decide (i = 1))]) := upd_same
    refine ⟨_, rfl, _, rfl, C i, dd, .ref (C 2), .ref (C 2), _, fs, ec, ed, X, rfl, fun u z => z, T.k i 2 hi (by decide), s0 _ _ hd, _, rfl, C i, dd, .ref (C 3), .ref (C 3), _, fs, ec, ed, X, rfl, fun u z => z, T.k i 3 hi (by decide), s0 _ _ hd, (by show 2 ≤ sizeLine; decide), fun m1 k1 => ⟨l0, m1, [.bl (decide (i = 0)), .bl (decide (i = 1))], [.bl (decide (i = 2)), .bl (decide (i = 3))], rfl, rfl, ?_, upd_same, (by show 4 ≤ sizeLine; decide), fun l1 n1 => ?_⟩⟩
    · exact Same.new k1 _ _ f0
    obtain ⟨s1, f1⟩ := step (o' := .lst [.bl (decide (i = 0)), .bl (decide (i = 1)), .bl (decide (i = 2)), .bl (decide (i = 3))]) s0 k1 n1
    refine ⟨_, rfl, _, rfl, C i, dd, .ref (C 4), .ref (C 4), _, fs, ec, ed, X, rfl, fun u z => z, T.k i 4 hi (by decide), s1 _ _ hd, _, rfl, C i, dd, .ref (C 5), .ref (C 5), _, fs, ec, ed, X, rfl, fun u z => z, T.k i 5 hi (by decide), s1 _ _ hd, (by show 2 ≤ sizeLine; decide), fun m2 k2 => ⟨l1, m2, [.bl (decide (i = 0)), .bl (decide (i = 1)), .bl (decide (i = 2)), .bl (decide (i = 3))], [.bl (decide (i = 4)), .bl (decide (i = 5))], rfl, rfl, ?_, upd_same, (by show 6 ≤ sizeLine; decide), fun l2 n2 => ?_⟩⟩
    · exact Same.new k2 _ _ f1
    obtain ⟨s2, f2⟩ := step (o' := .lst [.bl (decide (i = 0)), .bl (decide (i = 1)), .bl (decide (i = 2)), .bl (decide (i = 3)), .bl (decide (i = 4)), .bl (decide (i = 5))]) s1 k2 n2
    refine ⟨_, rfl, _, rfl, C i, dd, .ref (C 6), .ref (C 6), _, fs, ec, ed, X, rfl, fun u z => z, T.k i 6 hi (by decide), s2 _ _ hd, _, rfl, C i, dd, .ref (C 7), .ref (C 7), _, fs, ec, ed, X, rfl, fun u z => z, T.k i 7 hi (by decide), s2 _ _ hd, (by show 2 ≤ sizeLine; decide), fun m3 k3 => ⟨l2, m3, [.bl (decide (i = 0)), .bl (decide (i = 1)), .bl (decide (i = 2)), .bl (decide (i = 3)), .bl (decide (i = 4)), .bl (decide (i = 5))], [.bl (decide (i = 6)), .bl (decide (i = 7))], rfl, rfl, ?_, upd_same, (by show 8 ≤ sizeLine; decide), fun l3 n3 => ?_⟩⟩
    · exact Same.new k3 _ _ f2
    obtain ⟨s3, f3⟩ := step (o' := .lst [.bl (decide (i = 0)), .bl (decide (i = 1)), .bl (decide (i = 2)), .bl (decide (i = 3)), .bl (decide (i = 4)), .bl (decide (i = 5)), .bl (decide (i = 6)), .bl (decide (i = 7))]) s2 k3 n3
    refine ⟨_, rfl, _, rfl, C i, dd, .ref (C 8), .ref (C 8), _, fs, ec, ed, X, rfl, fun u z => z, T.k i 8 hi (by decide), s3 _ _ hd, _, rfl, C i, dd, .ref (C 9), .ref (C 9), _, fs, ec, ed, X, rfl, fun u z => z, T.k i 9 hi (by decide), s3 _ _ hd, (by show 2 ≤ sizeLine; decide), fun m4 k4 => ⟨l3, m4, [.bl (decide (i = 0)), .bl (decide (i = 1)), .bl (decide (i = 2)), .bl (decide (i = 3)), .bl (decide (i = 4)), .bl (decide (i = 5)), .bl (decide (i = 6)), .bl (decide (i = 7))], [.bl (decide (i = 8)), .bl (decide (i = 9))], rfl, rfl, ?_, upd_same, (by show 10 ≤ sizeLine; decide), fun l4 n4 => ?_⟩⟩
    · exact Same.new k4 _ _ f3
    obtain ⟨s4, f4⟩ := step (o' := .lst [.bl (decide (i = 0)), .bl (decide (i = 1)), .bl (decide (i = 2)), .bl (decide (i = 3)), .bl (decide (i = 4)), .bl (decide (i = 5)), .bl (decide (i = 6)), .bl (decide (i = 7)), .bl (decide (i = 8)), .bl (decide (i = 9))]) s3 k4 n4
    refine ⟨_, rfl, _, rfl, C i, dd, .ref (C 10), .ref (C 10), _, fs, ec, ed, X, rfl, fun u z => z, T.k i 10 hi (by decide), s4 _ _ hd, _, rfl, C i, dd, .ref (C 11), .ref (C 11), _, fs, ec, ed, X, rfl, fun u z => z, T.k i 11 hi (by decide), s4 _ _ hd, (by show 2 ≤ sizeLine; decide), fun m5 k5 => ⟨l4, m5, [.bl (decide (i = 0)), .bl (decide (i = 1)), .bl (decide (i = 2)), .bl (decide (i = 3)), .bl (decide (i = 4)), .bl (decide (i = 5)), .bl (decide (i = 6)), .bl (decide (i = 7)), .bl (decide (i = 8)), .bl (decide (i = 9))], [.bl (decide (i = 10)), .bl (decide (i = 11))], rfl, rfl, ?_, upd_same, (by show 12 ≤ sizeLine; decide), fun l5 n5 => ?_⟩⟩
    · exact Same.new k5 _ _ f4
    obtain ⟨s5, f5⟩ := step (o' := .lst [.bl (decide (i = 0)), .bl (decide (i = 1)), .bl (decide (i = 2)), .bl (decide (i = 3)), .bl (decide (i = 4)), .bl (decide (i = 5)), .bl (decide (i = 6)), .bl (decide (i = 7)), .bl (decide (i = 8)), .bl (decide (i = 9)), .bl (decide (i = 10)), .bl (decide (i = 11))]) s4 k5 n5
    refine ⟨_, rfl, _, rfl, C i, dd, .ref (C 12), .ref (C 12), _, fs, ec, ed, X, rfl, fun u z => z, T.k i 12 hi (by decide), s5 _ _ hd, _, rfl, C i, dd, .ref (C 13), .ref (C 13), _, fs, ec, ed, X, rfl, fun u z => z, T.k i 13 hi (by decide), s5 _ _ hd, (by show 2 ≤ sizeLine; decide), fun m6 k6 => ⟨l5, m6, [.bl (decide (i = 0)), .bl (decide (i = 1)), .bl (decide (i = 2)), .bl (decide (i = 3)), .bl (decide (i = 4)), .bl (decide (i = 5)), .bl (decide (i = 6)), .bl (decide (i = 7)), .bl (decide (i = 8)), .bl (decide (i = 9)), .bl (decide (i = 10)), .bl (decide (i = 11))], [.bl (decide (i = 12)), .bl (decide (i = 13))], rfl, rfl, ?_, upd_same, (by show 14 ≤ sizeLine; decide), fun l6 n6 => ?_⟩⟩
    · exact Same.new k6 _ _ f5
    obtain ⟨s6, f6⟩ := step (o' := .lst [.bl (decide (i = 0)), .bl (decide (i = 1)), .bl (decide (i = 2)), .bl (decide (i = 3)), .bl (decide (i = 4)), .bl (decide (i = 5)), .bl (decide (i = 6)), .bl (decide (i = 7)), .bl (decide (i = 8)), .bl (decide (i = 9)), .bl (decide (i = 10)), .bl (decide (i = 11)), .bl (decide (i = 12)), .bl (decide (i = 13))]) s5 k6 n6
    refine ⟨_, rfl, _, rfl, C i, dd, .ref (C 14), .ref (C 14), _, fs, ec, ed, X, rfl, fun u z => z, T.k i 14 hi (by decide), s6 _ _ hd, _, rfl, C i, dd, .ref (C 15), .ref (C 15), _, fs, ec, ed, X, rfl, fun u z => z, T.k i 15 hi (by decide), s6 _ _ hd, (by show 2 ≤ sizeLine; decide), fun m7 k7 => ⟨l6, m7, [.bl (decide (i = 0)), .bl (decide (i = 1)), .bl (decide (i = 2)), .bl (decide (i = 3)), .bl (decide (i = 4)), .bl (decide (i = 5)), .bl (decide (i = 6)), .bl (decide (i = 7)), .bl (decide (i = 8)), .bl (decide (i = 9)), .bl (decide (i = 10)), .bl (decide (i = 11)), .bl (decide (i = 12)), .bl (decide (i = 13))], [.bl (decide (i = 14)), .bl (decide (i = 15))], rfl, rfl, ?_, upd_same, (by show 16 ≤ sizeLine; decide), fun l7 n7 => ?_⟩⟩
    · exact Same.new k7 _ _ f6
    obtain ⟨s7, f7⟩ := step (o' := .lst [.bl (decide (i = 0)), .bl (decide (i = 1)), .bl (decide (i = 2)), .bl (decide (i = 3)), .bl (decide (i = 4)), .bl (decide (i = 5)), .bl (decide (i = 6)), .bl (decide (i = 7)), .bl (decide (i = 8)), .bl (decide (i = 9)), .bl (decide (i = 10)), .bl (decide (i = 11)), .bl (decide (i = 12)), .bl (decide (i = 13)), .bl (decide (i = 14)), .bl (decide (i = 15))]) s6 k7 n7
    refine ⟨_, rfl, _, rfl, C i, dd, .ref (C 16), .ref (C 16), _, fs, ec, ed, X, rfl, fun u z => z, T.k i 16 hi (by decide), s7 _ _ hd, _, rfl, C i, dd, .ref (C 17), .ref (C 17), _, fs, ec, ed, X, rfl, fun u z => z, T.k i 17 hi (by decide), s7 _ _ hd, (by show 2 ≤ sizeLine; decide), fun m8 k8 => ⟨l7, m8, [.bl (decide (i = 0)), .bl (decide (i = 1)), .bl (decide (i = 2)), .bl (decide (i = 3)), .bl (decide (i = 4)), .bl (decide (i = 5)), .bl (decide (i = 6)), .bl (decide (i = 7)), .bl (decide (i = 8)), .bl (decide (i = 9)), .bl (decide (i = 10)), .bl (decide (i = 11)), .bl (decide (i = 12)), .bl (decide (i = 13)), .bl (decide (i = 14)), .bl (decide (i = 15))], [.bl (decide (i = 16)), .bl (decide (i = 17))], rfl, rfl, ?_, upd_same, (by show 18 ≤ sizeLine; decide), fun l8 n8 => ?_⟩⟩
    · exact Same.new k8 _ _ f7
    obtain ⟨s8, f8⟩ := step (o' := .lst [.bl (decide (i = 0)), .bl (decide (i = 1)), .bl (decide (i = 2)), .bl (decide (i = 3)), .bl (decide (i = 4)), .bl (decide (i = 5)), .bl (decide (i = 6)), .bl (decide (i = 7)), .bl (decide (i = 8)), .bl (decide (i = 9)), .bl (decide (i = 10)), .bl (decide (i = 11)), .bl (decide (i = 12)), .bl (decide (i = 13)), .bl (decide (i = 14)), .bl (decide (i = 15)), .bl (decide (i = 16)), .bl (decide (i = 17))]) s7 k8 n8
    exact ⟨_, rfl, k l8 _ s8 f8⟩
end
end K00

set_option Elab.async false
set_option linter.all false
set_option maxRecDepth 100000
set_option maxHeartbeats 8000000
/-! Part I: the caught errors, their fields -/
namespace K00
open PySem L2
abbrev sF0 : Stmt := top 30
abbrev sF1 : Stmt := top 31
abbrev sF2 : Stmt := top 32
abbrev sFi : Stmt := top 33
def eVals (i : Nat) (a b c : V) : List V := [a, b, c].take ((eR i).length + 1)
def spFields (lo hi : Nat) : Sp := fun vs H Q _ => ∃ (i : Nat) (a b c : V), vs = [.int i, a, b, c] ∧ lo ≤ i ∧ i < hi ∧ ∀ (l : Addr) (H' : Hp), Same H H' → H' l = some (.lst (eVals i a b c)) → Q (.ref l) H'
section
variable {w : World} {K : PySem.W.Frag} {mg : Str → Option Value} {base : Heap} {C fI cc cda : Nat → Addr} {CB : Addr}
theorem ok_ca {f fr fk : Addr} {fd fdr fdk : FuncData} (F : Fun K "_law_caught" "_law_caught" sCa f fd) (T : Errs K mg C fI cc cda CB) (GR : FnOk PP w K mg base (L2.CX PP w) 2 fr fdr ["_law_k", "_law_a", "_law_b", "_law_c"] (spRaise 0 18 C)) (kr : PySem.W.keepIn K (.ref fr) = true) (br : Binds K fdr ["_law_k", "_law_a", "_law_b", "_law_c"] []) (gr : mg "_law_raised" = some (.ref fr))
    (GK : FnPin PP w K mg base 1 fk fdk ["_law_e"] (spKinds C)) (kk : PySem.W.keepIn K (.ref fk) = true) (bk : Binds K fdk ["_law_e"] []) (gk : mg "_law_kinds_of" = some (.ref fk)) : FnOk PP w K mg base CX0 3 f fd ["_law_k", "_law_a", "_law_b", "_law_c"] spCaught := by
  refine F.ok scCa (fun vs H Q E h => ?_) (fun cdv A outer s H vs Q E hr h => ?_)
  · obtain ⟨i, a, b, c, rfl, _⟩ := h
    rfl
  · obtain ⟨i, a, b, c, rfl, hi, k⟩ := h
    have hh := L2H.roomH_of (hr.mono (show 1 ≤ 2 by decide))
    refine ⟨_, pss_cons (ps_try_as (i := 4) rfl rfl scCa.nd rfl rfl ⟨rfl, by decide, Or.inl T.gB⟩ takes0
        (fun W pn xe tk _ => pss_one (ps_expr (by exact (pe_callS GR hr rfl gr kr br (fun σ => passAt tk σ) (by exact (pa_cons (pv 0) (pa_cons (pv 1) (pa_cons (pv 2) (pa_cons (pv 3) pa_nil)))))))))
        (fun e oe cls d pn hz hf => pss_one (ps_ret (by exact (pe_op op_cat (pe_lst (pa_cons (pe_callB (id := "isinstance") (r := rIsPin K e cls d) (call_isPin List.mem_cons_self hz hf) (by rfl) T.gI (by decide +kernel) (pa_cons (pv 4) (pa_cons (pe_bltn (v := .ty "ValueError") (by rfl) T.gV (by decide +kernel) rfl) pa_nil))) pa_nil))
          (by exact (pe_callPin GK ⟨hh.dp, hh.un⟩ List.mem_cons_self hz hf rfl gk kk bk (pa_cons (pv 4) pa_nil))))))))
      (pss_one (ps_ret (pe_lst pa_nil))), ?_⟩
    refine ⟨_, rfl, _, rfl, _, rfl, _, rfl, i, a, b, c, rfl, Nat.zero_le _, hi, fun d hd => ⟨true, T.b i hi, fun _ e he => ?_, fun z => Bool.noConfusion z⟩⟩
    refine ⟨_, rfl, C i, d, .ty "ValueError", .type "ValueError", _, _, rfl, rfl, (T.f i hi).x, rfl, fun u z => z, T.v i hi, upd_same, (by show 1 ≤ sizeLine; decide), fun l nl => ?_⟩
    have s1 := Same.new (o := .xd (eFlds i a b c)) hd
    have s2 := Same.new (o := .lst [.bl true]) nl
    refine ⟨_, rfl, i, d, _, hi, rfl, rfl, rfl, s2 _ _ upd_same, fun l2 H2 s3 f3 => ?_⟩
    refine ⟨l, l2, [.bl true], isK i, rfl, rfl, s3 _ _ upd_same, f3, (by show 19 ≤ sizeLine; decide), fun p np => ?_⟩
    exact k p _ (((s1.trans s2).trans s3).trans (Same.new np)) upd_same
theorem scF0 : FnScope ["_law_k", "_law_a", "_law_b", "_law_c", "_law_told", "_law_e"] ["_law_k", "_law_a", "_law_b", "_law_c"] (defScope sF0) := ⟨rfl, rfl, rfl, by decide +kernel, rfl, by decide +kernel, by decide +kernel⟩
theorem ok_f0 {f fr : Addr} {fd fdr : FuncData} (F : Fun K "_law_fields_0" "_law_fields_0" sF0 f fd) (T : Errs K mg C fI cc cda CB) (GR : FnOk PP w K mg base (L2.CX PP w) 1 fr fdr ["_law_k", "_law_a", "_law_b", "_law_c"] (spRaise 0 8 C)) (kr : PySem.W.keepIn K (.ref fr) = true) (br : Binds K fdr ["_law_k", "_law_a", "_law_b", "_law_c"] []) (gr : mg "_law_raised_0" = some (.ref fr)) :
    FnOk PP w K mg base CX0 2 f fd ["_law_k", "_law_a", "_law_b", "_law_c"] (spFields 0 8) := by
  refine F.ok scF0 (fun vs H Q E h => ?_) (fun cdv A outer s H vs Q E hr h => ?_)
  · obtain ⟨i, a, b, c, rfl, _⟩ := h
    rfl
  · obtain ⟨i, a, b, c, rfl, hlo, hhi, k⟩ := h
    refine ⟨_, pss_cons (ps_set (i := 4) scF0.nd rfl (Or.inl rfl) (pe_lst pa_nil)) (pss_cons (ps_try_clauses (i := 5) rfl rfl scF0.nd rfl rfl takes0
        (fun W pn xe tk _ => pss_one (ps_expr (by exact (pe_callS GR hr rfl gr kr br (fun σ => passAt tk σ) (by exact (pa_cons (pv 0) (pa_cons (pv 1) (pa_cons (pv 2) (pa_cons (pv 3) pa_nil)))))))))
        (.cons (c := .ref (C 0)) ⟨rfl, by decide, Or.inl (T.f 0 (by decide)).g⟩ (fun e oe cls d pn hz hf => pss_one (ps_set (i := 4) scF0.nd rfl (Or.inl rfl) (by exact (pe_lst (pa_cons (pe_xf (T.f 0 (by decide)).xf ((T.f 0 (by decide)).n "kind" (by decide +kernel)) hz hf (pv 5)) pa_nil)))))
        (.cons (c := .ref (C 1)) ⟨rfl, by decide, Or.inl (T.f 1 (by decide)).g⟩ (fun e oe cls d pn hz hf => pss_one (ps_set (i := 4) scF0.nd rfl (Or.inl rfl) (by exact (pe_lst (pa_cons (pe_xf (T.f 1 (by decide)).xf ((T.f 1 (by decide)).n "line" (by decide +kernel)) hz hf (pv 5)) pa_nil)))))
        (.cons (c := .ref (C 2)) ⟨rfl, by decide, Or.inl (T.f 2 (by decide)).g⟩ (fun e oe cls d pn hz hf => pss_one (ps_set (i := 4) scF0.nd rfl (Or.inl rfl) (by exact (pe_lst (pa_cons (pe_xf (T.f 2 (by decide)).xf ((T.f 2 (by decide)).n "line" (by decide +kernel)) hz hf (pv 5)) pa_nil)))))
        (.cons (c := .ref (C 3)) ⟨rfl, by decide, Or.inl (T.f 3 (by decide)).g⟩ (fun e oe cls d pn hz hf => pss_one (ps_set (i := 4) scF0.nd rfl (Or.inl rfl) (by exact (pe_lst (pa_cons (pe_xf (T.f 3 (by decide)).xf ((T.f 3 (by decide)).n "what" (by decide +kernel)) hz hf (pv 5)) (pa_cons (pe_xf (T.f 3 (by decide)).xf ((T.f 3 (by decide)).n "many" (by decide +kernel)) hz hf (pv 5)) (pa_cons (pe_xf (T.f 3 (by decide)).xf ((T.f 3 (by decide)).n "most" (by decide +kernel)) hz hf (pv 5)) pa_nil)))))))
        (.cons (c := .ref (C 4)) ⟨rfl, by decide, Or.inl (T.f 4 (by decide)).g⟩ (fun e oe cls d pn hz hf => pss_one (ps_set (i := 4) scF0.nd rfl (Or.inl rfl) (by exact (pe_lst (pa_cons (pe_xf (T.f 4 (by decide)).xf ((T.f 4 (by decide)).n "promise" (by decide +kernel)) hz hf (pv 5)) pa_nil)))))
        (.cons (c := .ref (C 5)) ⟨rfl, by decide, Or.inl (T.f 5 (by decide)).g⟩ (fun e oe cls d pn hz hf => pss_one (ps_set (i := 4) scF0.nd rfl (Or.inl rfl) (by exact (pe_lst (pa_cons (pe_xf (T.f 5 (by decide)).xf ((T.f 5 (by decide)).n "what" (by decide +kernel)) hz hf (pv 5)) pa_nil)))))
        (.cons (c := .ref (C 6)) ⟨rfl, by decide, Or.inl (T.f 6 (by decide)).g⟩ (fun e oe cls d pn hz hf => pss_one (ps_set (i := 4) scF0.nd rfl (Or.inl rfl) (by exact (pe_lst (pa_cons (pe_xf (T.f 6 (by decide)).xf ((T.f 6 (by decide)).n "size" (by decide +kernel)) hz hf (pv 5)) pa_nil)))))
        (.cons (c := .ref (C 7)) ⟨rfl, by decide, Or.inl (T.f 7 (by decide)).g⟩ (fun e oe cls d pn hz hf => pss_one (ps_set (i := 4) scF0.nd rfl (Or.inl rfl) (by exact (pe_lst (pa_cons (pe_xf (T.f 7 (by decide)).xf ((T.f 7 (by decide)).n "number" (by decide +kernel)) hz hf (pv 5)) pa_nil)))))
        .nil)))))))))
      (pss_one (ps_ret (pv 4)))), ?_⟩
    refine ⟨(by show 0 ≤ sizeLine; decide), fun l0 n0 => ?_⟩
    have s0 := Same.new (o := .lst []) n0
    have hi : i = 0 ∨ i = 1 ∨ i = 2 ∨ i = 3 ∨ i = 4 ∨ i = 5 ∨ i = 6 ∨ i = 7 := by omega
    rcases hi with rfl | rfl | rfl | rfl | rfl | rfl | rfl | rfl
    · refine ⟨_, rfl, _, rfl, _, rfl, _, rfl, 0, a, b, c, rfl, by decide, by decide, fun d hd => ?_⟩
      refine ⟨true, (T.e 0 0 (by decide) (by decide)).trans rfl, fun _ e he => ?_, fun z => Bool.noConfusion z⟩
      have s1 := Same.new (o := .xd (eFlds 0 a b c)) hd
      refine ⟨_, rfl, rfl, rfl, d, _, _, rfl, upd_same, (show (eFlds 0 a b c).lookup ("kind" : Str) = some a by kernel_rfl), (by show 1 ≤ sizeLine; decide), fun l nl => ⟨_, rfl, ?_⟩⟩
      exact k l _ ((s0.trans s1).trans (Same.new nl)) upd_same
    · refine ⟨_, rfl, _, rfl, _, rfl, _, rfl, 1, a, b, c, rfl, by decide, by decide, fun d hd => ?_⟩
      refine ⟨false, (T.e 1 0 (by decide) (by decide)).trans rfl, fun z => Bool.noConfusion z, fun _ => ?_⟩
      refine ⟨true, (T.e 1 1 (by decide) (by decide)).trans rfl, fun _ e he => ?_, fun z => Bool.noConfusion z⟩
      have s1 := Same.new (o := .xd (eFlds 1 a b c)) hd
      refine ⟨_, rfl, rfl, rfl, d, _, _, rfl, upd_same, (show (eFlds 1 a b c).lookup ("line" : Str) = some a by kernel_rfl), (by show 1 ≤ sizeLine; decide), fun l nl => ⟨_, rfl, ?_⟩⟩
      exact k l _ ((s0.trans s1).trans (Same.new nl)) upd_same
    · refine ⟨_, rfl, _, rfl, _, rfl, _, rfl, 2, a, b, c, rfl, by decide, by decide, fun d hd => ?_⟩
      refine ⟨false, (T.e 2 0 (by decide) (by decide)).trans rfl, fun z => Bool.noConfusion z, fun _ => ?_⟩
      refine ⟨false, (T.e 2 1 (by decide) (by decide)).trans rfl, fun z => Bool.noConfusion z, fun _ => ?_⟩
      refine ⟨true, (T.e 2 2 (by decide) (by decide)).trans rfl, fun _ e he => ?_, fun z => Bool.noConfusion z⟩
      have s1 := Same.new (o := .xd (eFlds 2 a b c)) hd
      refine ⟨_, rfl, rfl, rfl, d, _, _, rfl, upd_same, (show (eFlds 2 a b c).lookup ("line" : Str) = some a by kernel_rfl), (by show 1 ≤ sizeLine; decide), fun l nl => ⟨_, rfl, ?_⟩⟩
      exact k l _ ((s0.trans s1).trans (Same.new nl)) upd_same
    · refine ⟨_, rfl, _, rfl, _, rfl, _, rfl, 3, a, b, c, rfl, by decide, by decide, fun d hd => ?_⟩
      refine ⟨false, (T.e 3 0 (by decide) (by decide)).trans rfl, fun z => Bool.noConfusion z, fun _ => ?_⟩
      refine ⟨false, (T.e 3 1 (by decide) (by decide)).trans rfl, fun z => Bool.noConfusion z, fun _ => ?_⟩
      refine ⟨false, (T.e 3 2 (by decide) (by decide)).trans rfl, fun z => Bool.noConfusion z, fun _ => ?_⟩
      refine ⟨true, (T.e 3 3 (by decide) (by decide)).trans rfl, fun _ e he => ?_, fun z => Bool.noConfusion z⟩
      have s1 := Same.new (o := .xd (eFlds 3 a b c)) hd
      refine ⟨_, rfl, rfl, rfl, d, _, _, rfl, upd_same, (show (eFlds 3 a b c).lookup ("what" : Str) = some a by kernel_rfl), _, rfl, rfl, rfl, d, _, _, rfl, upd_same, (show (eFlds 3 a b c).lookup ("many" : Str) = some b by kernel_rfl), _, rfl, rfl, rfl, d, _, _, rfl, upd_same, (show (eFlds 3 a b c).lookup ("most" : Str) = some c by kernel_rfl), (by show 3 ≤ sizeLine; decide), fun l nl => ⟨_, rfl, ?_⟩⟩
      exact k l _ ((s0.trans s1).trans (Same.new nl)) upd_same
    · refine ⟨_, rfl, _, rfl, _, rfl, _, rfl, 4, a, b, c, rfl, by decide, by decide, fun d hd => ?_⟩
      refine ⟨false, (T.e 4 0 (by decide) (by decide)).trans rfl, fun z => Bool.noConfusion z, fun _ => ?_⟩
      refine ⟨false, (T.e 4 1 (by decide) (by decide)).trans rfl, fun z => Bool.noConfusion z, fun _ => ?_⟩
      refine ⟨false, (T.e 4 2 (by decide) (by decide)).trans rfl, fun z => Bool.noConfusion z, fun _ => ?_⟩
      refine ⟨false, (T.e 4 3 (by decide) (by decide)).trans rfl, fun z => Bool.noConfusion z, fun _ => ?_⟩
      refine ⟨true, (T.e 4 4 (by decide) (by decide)).trans rfl, fun _ e he => ?_, fun z => Bool.noConfusion z⟩
      have s1 := Same.new (o := .xd (eFlds 4 a b c)) hd
      refine ⟨_, rfl, rfl, rfl, d, _, _, rfl, upd_same, (show (eFlds 4 a b c).lookup ("promise" : Str) = some a by kernel_rfl), (by show 1 ≤ sizeLine; decide), fun l nl => ⟨_, rfl, ?_⟩⟩
      exact k l _ ((s0.trans s1).trans (Same.new nl)) upd_same
    · refine ⟨_, rfl, _, rfl, _, rfl, _, rfl, 5, a, b, c, rfl, by decide, by decide, fun d hd => ?_⟩
      refine ⟨false, (T.e 5 0 (by decide) (by decide)).trans rfl, fun z => Bool.noConfusion z, fun _ => ?_⟩
      refine ⟨false, (T.e 5 1 (by decide) (by decide)).trans rfl, fun z => Bool.noConfusion z, fun _ => ?_⟩
      refine ⟨false, (T.e 5 2 (by decide) (by decide)).trans rfl, fun z => Bool.noConfusion z, fun _ => ?_⟩
      refine ⟨false, (T.e 5 3 (by decide) (by decide)).trans rfl, fun z => Bool.noConfusion z, fun _ => ?_⟩
      refine ⟨false, (T.e 5 4 (by decide) (by decide)).trans rfl, fun z => Bool.noConfusion z, fun _ => ?_⟩
      refine ⟨true, (T.e 5 5 (by decide) (by decide)).trans rfl, fun _ e he => ?_, fun z => Bool.noConfusion z⟩
      have s1 := Same.new (o := .xd (eFlds 5 a b c)) hd
      refine ⟨_, rfl, rfl, rfl, d, _, _, rfl, upd_same, (show (eFlds 5 a b c).lookup ("what" : Str) = some a by kernel_rfl), (by show 1 ≤ sizeLine; decide), fun l nl => ⟨_, rfl, ?_⟩⟩
      exact k l _ ((s0.trans s1).trans (Same.new nl)) upd_same
    · refine ⟨_, rfl, _, rfl, _, rfl, _, rfl, 6, a, b, c, rfl, by decide, by decide, fun d hd => ?_⟩
      refine ⟨false, (T.e 6 0 (by decide) (by decide)).trans rfl, fun z => Bool.noConfusion z, fun _ => ?_⟩
      refine ⟨false, (T.e 6 1 (by decide) (by decide)).trans rfl, fun z => Bool.noConfusion z, fun _ => ?_⟩
      refine ⟨false, (T.e 6 2 (by decide) (by decide)).trans rfl, fun z => Bool.noConfusion z, fun _ => ?_⟩
      refine ⟨false, (T.e 6 3 (by decide) (by decide)).trans rfl, fun z => Bool.noConfusion z, fun _ => ?_⟩
      refine ⟨false, (T.e 6 4 (by decide) (by decide)).trans rfl, fun z => Bool.noConfusion z, fun _ => ?_⟩
      refine ⟨false, (T.e 6 5 (by decide) (by decide)).trans rfl, fun z => Bool.noConfusion z, fun _ => ?_⟩
      refine ⟨true, (T.e 6 6 (by decide) (by decide)).trans rfl, fun _ e he => ?_, fun z => Bool.noConfusion z⟩
      have s1 := Same.new (o := .xd (eFlds 6 a b c)) hd
      refine ⟨_, rfl, rfl, rfl, d, _, _, rfl, upd_same, (show (eFlds 6 a b c).lookup ("size" : Str) = some a by kernel_rfl), (by show 1 ≤ sizeLine; decide), fun l nl => ⟨_, rfl, ?_⟩⟩
      exact k l _ ((s0.trans s1).trans (Same.new nl)) upd_same
    · refine ⟨_, rfl, _, rfl, _, rfl, _, rfl, 7, a, b, c, rfl, by decide, by decide, fun d hd => ?_⟩
      refine ⟨false, (T.e 7 0 (by decide) (by decide)).trans rfl, fun z => Bool.noConfusion z, fun _ => ?_⟩
      refine ⟨false, (T.e 7 1 (by decide) (by decide)).trans rfl, fun z => Bool.noConfusion z, fun _ => ?_⟩
      refine ⟨false, (T.e 7 2 (by decide) (by decide)).trans rfl, fun z => Bool.noConfusion z, fun _ => ?_⟩
      refine ⟨false, (T.e 7 3 (by decide) (by decide)).trans rfl, fun z => Bool.noConfusion z, fun _ => ?_⟩
      refine ⟨false, (T.e 7 4 (by decide) (by decide)).trans rfl, fun z => Bool.noConfusion z, fun _ => ?_⟩
      refine ⟨false, (T.e 7 5 (by decide) (by decide)).trans rfl, fun z => Bool.noConfusion z, fun _ => ?_⟩
      refine ⟨false, (T.e 7 6 (by decide) (by decide)).trans rfl, fun z => Bool.noConfusion z, fun _ => ?_⟩
      refine ⟨true, (T.e 7 7 (by decide) (by decide)).trans rfl, fun _ e he => ?_, fun z => Bool.noConfusion z⟩
      have s1 := Same.new (o := .xd (eFlds 7 a b c)) hd
      refine ⟨_, rfl, rfl, rfl, d, _, _, rfl, upd_same, (show (eFlds 7 a b c).lookup ("number" : Str) = some a by kernel_rfl), (by show 1 ≤ sizeLine; decide), fun l nl => ⟨_, rfl, ?_⟩⟩
      exact k l _ ((s0.trans s1).trans (Same.new nl)) upd_same
theorem scF1 : FnScope ["_law_k", "_law_a", "_law_b", "_law_c", "_law_told", "_law_e"] ["_law_k", "_law_a", "_law_b", "_law_c"] (defScope sF1) := ⟨rfl, rfl, rfl, by decide +kernel, rfl, by decide +kernel, by decide +kernel⟩
theorem ok_f1 {f fr : Addr} {fd fdr : FuncData} (F : Fun K "_law_fields_1" "_law_fields_1" sF1 f fd) (T : Errs K mg C fI cc cda CB) (GR : FnOk PP w K mg base (L2.CX PP w) 1 fr fdr ["_law_k", "_law_a", "_law_b", "_law_c"] (spRaise 8 16 C)) (kr : PySem.W.keepIn K (.ref fr) = true) (br : Binds K fdr ["_law_k", "_law_a", "_law_b", "_law_c"] []) (gr : mg "_law_raised_1" = some (.ref fr)) :
    FnOk PP w K mg base CX0 2 f fd ["_law_k", "_law_a", "_law_b", "_law_c"] (spFields 8 16) := by
  refine F.ok scF1 (fun vs H Q E h => ?_) (fun cdv A outer s H vs Q E hr h => ?_)
  · obtain ⟨i, a, b, c, rfl, _⟩ := h
    rfl
  · obtain ⟨i, a, b, c, rfl, hlo, hhi, k⟩ := h
    refine ⟨_, pss_cons (ps_set (i := 4) scF1.nd rfl (Or.inl rfl) (pe_lst pa_nil)) (pss_cons (ps_try_clauses (i := 5) rfl rfl scF1.nd rfl rfl takes0
        (fun W pn xe tk _ => pss_one (ps_expr (by exact (pe_callS GR hr rfl gr kr br (fun σ => passAt tk σ) (by exact (pa_cons (pv 0) (pa_cons (pv 1) (pa_cons (pv 2) (pa_cons (pv 3) pa_nil)))))))))
        (.cons (c := .ref (C 8)) ⟨rfl, by decide, Or.inl (T.f 8 (by decide)).g⟩ (fun e oe cls d pn hz hf => pss_one (ps_set (i := 4) scF1.nd rfl (Or.inl rfl) (by exact (pe_lst (pa_cons (pe_xf (T.f 8 (by decide)).xf ((T.f 8 (by decide)).n "many" (by decide +kernel)) hz hf (pv 5)) pa_nil)))))
        (.cons (c := .ref (C 9)) ⟨rfl, by decide, Or.inl (T.f 9 (by decide)).g⟩ (fun e oe cls d pn hz hf => pss_one (ps_set (i := 4) scF1.nd rfl (Or.inl rfl) (by exact (pe_lst (pa_cons (pe_xf (T.f 9 (by decide)).xf ((T.f 9 (by decide)).n "case" (by decide +kernel)) hz hf (pv 5)) pa_nil)))))
        (.cons (c := .ref (C 10)) ⟨rfl, by decide, Or.inl (T.f 10 (by decide)).g⟩ (fun e oe cls d pn hz hf => pss_one (ps_set (i := 4) scF1.nd rfl (Or.inl rfl) (by exact (pe_lst (pa_cons (pe_xf (T.f 10 (by decide)).xf ((T.f 10 (by decide)).n "word" (by decide +kernel)) hz hf (pv 5)) pa_nil)))))
        (.cons (c := .ref (C 11)) ⟨rfl, by decide, Or.inl (T.f 11 (by decide)).g⟩ (fun e oe cls d pn hz hf => pss_one (ps_set (i := 4) scF1.nd rfl (Or.inl rfl) (by exact (pe_lst (pa_cons (pe_xf (T.f 11 (by decide)).xf ((T.f 11 (by decide)).n "name" (by decide +kernel)) hz hf (pv 5)) pa_nil)))))
        (.cons (c := .ref (C 12)) ⟨rfl, by decide, Or.inl (T.f 12 (by decide)).g⟩ (fun e oe cls d pn hz hf => pss_one (ps_set (i := 4) scF1.nd rfl (Or.inl rfl) (by exact (pe_lst (pa_cons (pe_xf (T.f 12 (by decide)).xf ((T.f 12 (by decide)).n "length" (by decide +kernel)) hz hf (pv 5)) pa_nil)))))
        (.cons (c := .ref (C 13)) ⟨rfl, by decide, Or.inl (T.f 13 (by decide)).g⟩ (fun e oe cls d pn hz hf => pss_one (ps_set (i := 4) scF1.nd rfl (Or.inl rfl) (by exact (pe_lst (pa_cons (pe_xf (T.f 13 (by decide)).xf ((T.f 13 (by decide)).n "part" (by decide +kernel)) hz hf (pv 5)) pa_nil)))))
        (.cons (c := .ref (C 14)) ⟨rfl, by decide, Or.inl (T.f 14 (by decide)).g⟩ (fun e oe cls d pn hz hf => pss_one (ps_set (i := 4) scF1.nd rfl (Or.inl rfl) (by exact (pe_lst (pa_cons (pe_xf (T.f 14 (by decide)).xf ((T.f 14 (by decide)).n "part" (by decide +kernel)) hz hf (pv 5)) pa_nil)))))
        (.cons (c := .ref (C 15)) ⟨rfl, by decide, Or.inl (T.f 15 (by decide)).g⟩ (fun e oe cls d pn hz hf => pss_one (ps_set (i := 4) scF1.nd rfl (Or.inl rfl) (by exact (pe_lst (pa_cons (pe_xf (T.f 15 (by decide)).xf ((T.f 15 (by decide)).n "part" (by decide +kernel)) hz hf (pv 5)) pa_nil)))))
        .nil)))))))))
      (pss_one (ps_ret (pv 4)))), ?_⟩
    refine ⟨(by show 0 ≤ sizeLine; decide), fun l0 n0 => ?_⟩
    have s0 := Same.new (o := .lst []) n0
    have hi : i = 8 ∨ i = 9 ∨ i = 10 ∨ i = 11 ∨ i = 12 ∨ i = 13 ∨ i = 14 ∨ i = 15 := by omega
    rcases hi with rfl | rfl | rfl | rfl | rfl | rfl | rfl | rfl
    · refine ⟨_, rfl, _, rfl, _, rfl, _, rfl, 8, a, b, c, rfl, by decide, by decide, fun d hd => ?_⟩
      refine ⟨true, (T.e 8 8 (by decide) (by decide)).trans rfl, fun _ e he => ?_, fun z => Bool.noConfusion z⟩
      have s1 := Same.new (o := .xd (eFlds 8 a b c)) hd
      refine ⟨_, rfl, rfl, rfl, d, _, _, rfl, upd_same, (show (eFlds 8 a b c).lookup ("many" : Str) = some a by kernel_rfl), (by show 1 ≤ sizeLine; decide), fun l nl => ⟨_, rfl, ?_⟩⟩
      exact k l _ ((s0.trans s1).trans (Same.new nl)) upd_same
    · refine ⟨_, rfl, _, rfl, _, rfl, _, rfl, 9, a, b, c, rfl, by decide, by decide, fun d hd => ?_⟩
      refine ⟨false, (T.e 9 8 (by decide) (by decide)).trans rfl, fun z => Bool.noConfusion z, fun _ => ?_⟩
      refine ⟨true, (T.e 9 9 (by decide) (by decide)).trans rfl, fun _ e he => ?_, fun z => Bool.noConfusion z⟩
      have s1 := Same.new (o := .xd (eFlds 9 a b c)) hd
      refine ⟨_, rfl, rfl, rfl, d, _, _, rfl, upd_same, (show (eFlds 9 a b c).lookup ("case" : Str) = some a by kernel_rfl), (by show 1 ≤ sizeLine; decide), fun l nl => ⟨_, rfl, ?_⟩⟩
      exact k l _ ((s0.trans s1).trans (Same.new nl)) upd_same
    · refine ⟨_, rfl, _, rfl, _, rfl, _, rfl, 10, a, b, c, rfl, by decide, by decide, fun d hd => ?_⟩
      refine ⟨false, (T.e 10 8 (by decide) (by decide)).trans rfl, fun z => Bool.noConfusion z, fun _ => ?_⟩
      refine ⟨false, (T.e 10 9 (by decide) (by decide)).trans rfl, fun z => Bool.noConfusion z, fun _ => ?_⟩
      refine ⟨true, (T.e 10 10 (by decide) (by decide)).trans rfl, fun _ e he => ?_, fun z => Bool.noConfusion z⟩
      have s1 := Same.new (o := .xd (eFlds 10 a b c)) hd
      refine ⟨_, rfl, rfl, rfl, d, _, _, rfl, upd_same, (show (eFlds 10 a b c).lookup ("word" : Str) = some a by kernel_rfl), (by show 1 ≤ sizeLine; decide), fun l nl => ⟨_, rfl, ?_⟩⟩
      exact k l _ ((s0.trans s1).trans (Same.new nl)) upd_same
    · refine ⟨_, rfl, _, rfl, _, rfl, _, rfl, 11, a, b, c, rfl, by decide, by decide, fun d hd => ?_⟩
      refine ⟨false, (T.e 11 8 (by decide) (by decide)).trans rfl, fun z => Bool.noConfusion z, fun _ => ?_⟩
      refine ⟨false, (T.e 11 9 (by decide) (by decide)).trans rfl, fun z => Bool.noConfusion z, fun _ => ?_⟩
      refine ⟨false, (T.e 11 10 (by decide) (by decide)).trans rfl, fun z => Bool.noConfusion z, fun _ => ?_⟩
      refine ⟨true, (T.e 11 11 (by decide) (by decide)).trans rfl, fun _ e he => ?_, fun z => Bool.noConfusion z⟩
      have s1 := Same.new (o := .xd (eFlds 11 a b c)) hd
      refine ⟨_, rfl, rfl, rfl, d, _, _, rfl, upd_same, (show (eFlds 11 a b c).lookup ("name" : Str) = some a by kernel_rfl), (by show 1 ≤ sizeLine; decide), fun l nl => ⟨_, rfl, ?_⟩⟩
      exact k l _ ((s0.trans s1).trans (Same.new nl)) upd_same
    · refine ⟨_, rfl, _, rfl, _, rfl, _, rfl, 12, a, b, c, rfl, by decide, by decide, fun d hd => ?_⟩
      refine ⟨false, (T.e 12 8 (by decide) (by decide)).trans rfl, fun z => Bool.noConfusion z, fun _ => ?_⟩
      refine ⟨false, (T.e 12 9 (by decide) (by decide)).trans rfl, fun z => Bool.noConfusion z, fun _ => ?_⟩
      refine ⟨false, (T.e 12 10 (by decide) (by decide)).trans rfl, fun z => Bool.noConfusion z, fun _ => ?_⟩
      refine ⟨false, (T.e 12 11 (by decide) (by decide)).trans rfl, fun z => Bool.noConfusion z, fun _ => ?_⟩
      refine ⟨true, (T.e 12 12 (by decide) (by decide)).trans rfl, fun _ e he => ?_, fun z => Bool.noConfusion z⟩
      have s1 := Same.new (o := .xd (eFlds 12 a b c)) hd
      refine ⟨_, rfl, rfl, rfl, d, _, _, rfl, upd_same, (show (eFlds 12 a b c).lookup ("length" : Str) = some a by kernel_rfl), (by show 1 ≤ sizeLine; decide), fun l nl => ⟨_, rfl, ?_⟩⟩
      exact k l _ ((s0.trans s1).trans (Same.new nl)) upd_same
    · refine ⟨_, rfl, _, rfl, _, rfl, _, rfl, 13, a, b, c, rfl, by decide, by decide, fun d hd => ?_⟩
      refine ⟨false, (T.e 13 8 (by decide) (by decide)).trans rfl, fun z => Bool.noConfusion z, fun _ => ?_⟩
      refine ⟨false, (T.e 13 9 (by decide) (by decide)).trans rfl, fun z => Bool.noConfusion z, fun _ => ?_⟩
      refine ⟨false, (T.e 13 10 (by decide) (by decide)).trans rfl, fun z => Bool.noConfusion z, fun _ => ?_⟩
      refine ⟨false, (T.e 13 11 (by decide) (by decide)).trans rfl, fun z => Bool.noConfusion z, fun _ => ?_⟩
      refine ⟨false, (T.e 13 12 (by decide) (by decide)).trans rfl, fun z => Bool.noConfusion z, fun _ => ?_⟩
      refine ⟨true, (T.e 13 13 (by decide) (by decide)).trans rfl, fun _ e he => ?_, fun z => Bool.noConfusion z⟩
      have s1 := Same.new (o := .xd (eFlds 13 a b c)) hd
      refine ⟨_, rfl, rfl, rfl, d, _, _, rfl, upd_same, (show (eFlds 13 a b c).lookup ("part" : Str) = some a by kernel_rfl), (by show 1 ≤ sizeLine; decide), fun l nl => ⟨_, rfl, ?_⟩⟩
      exact k l _ ((s0.trans s1).trans (Same.new nl)) upd_same
    · refine ⟨_, rfl, _, rfl, _, rfl, _, rfl, 14, a, b, c, rfl, by decide, by decide, fun d hd => ?_⟩
      refine ⟨false, (T.e 14 8 (by decide) (by decide)).trans rfl, fun z => Bool.noConfusion z, fun _ => ?_⟩
      refine ⟨false, (T.e 14 9 (by decide) (by decide)).trans rfl, fun z => Bool.noConfusion z, fun _ => ?_⟩
      refine ⟨false, (T.e 14 10 (by decide) (by decide)).trans rfl, fun z => Bool.noConfusion z, fun _ => ?_⟩
      refine ⟨false, (T.e 14 11 (by decide) (by decide)).trans rfl, fun z => Bool.noConfusion z, fun _ => ?_⟩
      refine ⟨false, (T.e 14 12 (by decide) (by decide)).trans rfl, fun z => Bool.noConfusion z, fun _ => ?_⟩
      refine ⟨false, (T.e 14 13 (by decide) (by decide)).trans rfl, fun z => Bool.noConfusion z, fun _ => ?_⟩
      refine ⟨true, (T.e 14 14 (by decide) (by decide)).trans rfl, fun _ e he => ?_, fun z => Bool.noConfusion z⟩
      have s1 := Same.new (o := .xd (eFlds 14 a b c)) hd
      refine ⟨_, rfl, rfl, rfl, d, _, _, rfl, upd_same, (show (eFlds 14 a b c).lookup ("part" : Str) = some a by kernel_rfl), (by show 1 ≤ sizeLine; decide), fun l nl => ⟨_, rfl, ?_⟩⟩
      exact k l _ ((s0.trans s1).trans (Same.new nl)) upd_same
    · refine ⟨_, rfl, _, rfl, _, rfl, _, rfl, 15, a, b, c, rfl, by decide, by decide, fun d hd => ?_⟩
      refine ⟨false, (T.e 15 8 (by decide) (by decide)).trans rfl, fun z => Bool.noConfusion z, fun _ => ?_⟩
      refine ⟨false, (T.e 15 9 (by decide) (by decide)).trans rfl, fun z => Bool.noConfusion z, fun _ => ?_⟩
      refine ⟨false, (T.e 15 10 (by decide) (by decide)).trans rfl, fun z => Bool.noConfusion z, fun _ => ?_⟩
      refine ⟨false, (T.e 15 11 (by decide) (by decide)).trans rfl, fun z => Bool.noConfusion z, fun _ => ?_⟩
      refine ⟨false, (T.e 15 12 (by decide) (by decide)).trans rfl, fun z => Bool.noConfusion z, fun _ => ?_⟩
      refine ⟨false, (T.e 15 13 (by decide) (by decide)).trans rfl, fun z => Bool.noConfusion z, fun _ => ?_⟩
      refine ⟨false, (T.e 15 14 (by decide) (by decide)).trans rfl, fun z => Bool.noConfusion z, fun _ => ?_⟩
      refine ⟨true, (T.e 15 15 (by decide) (by decide)).trans rfl, fun _ e he => ?_, fun z => Bool.noConfusion z⟩
      have s1 := Same.new (o := .xd (eFlds 15 a b c)) hd
      refine ⟨_, rfl, rfl, rfl, d, _, _, rfl, upd_same, (show (eFlds 15 a b c).lookup ("part" : Str) = some a by kernel_rfl), (by show 1 ≤ sizeLine; decide), fun l nl => ⟨_, rfl, ?_⟩⟩
      exact k l _ ((s0.trans s1).trans (Same.new nl)) upd_same
theorem scF2 : FnScope ["_law_k", "_law_a", "_law_b", "_law_c", "_law_told", "_law_e"] ["_law_k", "_law_a", "_law_b", "_law_c"] (defScope sF2) := ⟨rfl, rfl, rfl, by decide +kernel, rfl, by decide +kernel, by decide +kernel⟩
theorem ok_f2 {f fr : Addr} {fd fdr : FuncData} (F : Fun K "_law_fields_2" "_law_fields_2" sF2 f fd) (T : Errs K mg C fI cc cda CB) (GR : FnOk PP w K mg base (L2.CX PP w) 1 fr fdr ["_law_k", "_law_a", "_law_b", "_law_c"] (spRaise 16 18 C)) (kr : PySem.W.keepIn K (.ref fr) = true) (br : Binds K fdr ["_law_k", "_law_a", "_law_b", "_law_c"] []) (gr : mg "_law_raised_2" = some (.ref fr)) :
    FnOk PP w K mg base CX0 2 f fd ["_law_k", "_law_a", "_law_b", "_law_c"] (spFields 16 18) := by
  refine F.ok scF2 (fun vs H Q E h => ?_) (fun cdv A outer s H vs Q E hr h => ?_)
  · obtain ⟨i, a, b, c, rfl, _⟩ := h
    rfl
  · obtain ⟨i, a, b, c, rfl, hlo, hhi, k⟩ := h
    refine ⟨_, pss_cons (ps_set (i := 4) scF2.nd rfl (Or.inl rfl) (pe_lst pa_nil)) (pss_cons (ps_try_clauses (i := 5) rfl rfl scF2.nd rfl rfl takes0
        (fun W pn xe tk _ => pss_one (ps_expr (by exact (pe_callS GR hr rfl gr kr br (fun σ => passAt tk σ) (by exact (pa_cons (pv 0) (pa_cons (pv 1) (pa_cons (pv 2) (pa_cons (pv 3) pa_nil)))))))))
        (.cons (c := .ref (C 16)) ⟨rfl, by decide, Or.inl (T.f 16 (by decide)).g⟩ (fun e oe cls d pn hz hf => pss_one (ps_set (i := 4) scF2.nd rfl (Or.inl rfl) (by exact (pe_lst (pa_cons (pe_xf (T.f 16 (by decide)).xf ((T.f 16 (by decide)).n "gap" (by decide +kernel)) hz hf (pv 5)) pa_nil)))))
        (.cons (c := .ref (C 17)) ⟨rfl, by decide, Or.inl (T.f 17 (by decide)).g⟩ (fun e oe cls d pn hz hf => pss_one (ps_set (i := 4) scF2.nd rfl (Or.inl rfl) (by exact (pe_lst (pa_cons (pe_xf (T.f 17 (by decide)).xf ((T.f 17 (by decide)).n "index" (by decide +kernel)) hz hf (pv 5)) pa_nil)))))
        .nil)))
      (pss_one (ps_ret (pv 4)))), ?_⟩
    refine ⟨(by show 0 ≤ sizeLine; decide), fun l0 n0 => ?_⟩
    have s0 := Same.new (o := .lst []) n0
    have hi : i = 16 ∨ i = 17 := by omega
    rcases hi with rfl | rfl
    · refine ⟨_, rfl, _, rfl, _, rfl, _, rfl, 16, a, b, c, rfl, by decide, by decide, fun d hd => ?_⟩
      refine ⟨true, (T.e 16 16 (by decide) (by decide)).trans rfl, fun _ e he => ?_, fun z => Bool.noConfusion z⟩
      have s1 := Same.new (o := .xd (eFlds 16 a b c)) hd
      refine ⟨_, rfl, rfl, rfl, d, _, _, rfl, upd_same, (show (eFlds 16 a b c).lookup ("gap" : Str) = some a by kernel_rfl), (by show 1 ≤ sizeLine; decide), fun l nl => ⟨_, rfl, ?_⟩⟩
      exact k l _ ((s0.trans s1).trans (Same.new nl)) upd_same
    · refine ⟨_, rfl, _, rfl, _, rfl, _, rfl, 17, a, b, c, rfl, by decide, by decide, fun d hd => ?_⟩
      refine ⟨false, (T.e 17 16 (by decide) (by decide)).trans rfl, fun z => Bool.noConfusion z, fun _ => ?_⟩
      refine ⟨true, (T.e 17 17 (by decide) (by decide)).trans rfl, fun _ e he => ?_, fun z => Bool.noConfusion z⟩
      have s1 := Same.new (o := .xd (eFlds 17 a b c)) hd
      refine ⟨_, rfl, rfl, rfl, d, _, _, rfl, upd_same, (show (eFlds 17 a b c).lookup ("index" : Str) = some a by kernel_rfl), (by show 1 ≤ sizeLine; decide), fun l nl => ⟨_, rfl, ?_⟩⟩
      exact k l _ ((s0.trans s1).trans (Same.new nl)) upd_same
theorem scFi : FnScope ["_law_k", "_law_a", "_law_b", "_law_c"] ["_law_k", "_law_a", "_law_b", "_law_c"] (defScope sFi) := ⟨rfl, rfl, rfl, by decide +kernel, rfl, by decide +kernel, by decide +kernel⟩
theorem ok_fi {f f0 f1 f2 : Addr} {fd fd0 fd1 fd2 : FuncData} (F : Fun K "_law_fields" "_law_fields" sFi f fd)
    (G0 : FnOk PP w K mg base CX0 2 f0 fd0 ["_law_k", "_law_a", "_law_b", "_law_c"] (spFields 0 8)) (k0 : PySem.W.keepIn K (.ref f0) = true) (b0 : Binds K fd0 ["_law_k", "_law_a", "_law_b", "_law_c"] []) (g0 : mg "_law_fields_0" = some (.ref f0))
    (G1 : FnOk PP w K mg base CX0 2 f1 fd1 ["_law_k", "_law_a", "_law_b", "_law_c"] (spFields 8 16)) (k1 : PySem.W.keepIn K (.ref f1) = true) (b1 : Binds K fd1 ["_law_k", "_law_a", "_law_b", "_law_c"] []) (g1 : mg "_law_fields_1" = some (.ref f1))
    (G2 : FnOk PP w K mg base CX0 2 f2 fd2 ["_law_k", "_law_a", "_law_b", "_law_c"] (spFields 16 18)) (k2 : PySem.W.keepIn K (.ref f2) = true) (b2 : Binds K fd2 ["_law_k", "_law_a", "_law_b", "_law_c"] []) (g2 : mg "_law_fields_2" = some (.ref f2)) :
    FnOk PP w K mg base CX0 3 f fd ["_law_k", "_law_a", "_law_b", "_law_c"] (spFields 0 18) := by
  refine F.ok scFi (fun vs H Q E h => ?_) (fun cdv A outer s H vs Q E hr h => ?_)
  · obtain ⟨i, a, b, c, rfl, _⟩ := h
    rfl
  · obtain ⟨i, a, b, c, rfl, hlo, hhi, k⟩ := h
    refine ⟨_, pss_cons (ps_if (pt_cmpR op_lt (pv 0) pe_int (nomark _)) (pss_one (ps_ret (pe_call G0 hr rfl g0 k0 b0 .nil pass0 (pa_cons (pv 0) (pa_cons (pv 1) (pa_cons (pv 2) (pa_cons (pv 3) pa_nil))))))) pss_nil)
      (pss_cons (ps_if (pt_cmpR op_lt (pv 0) pe_int (nomark _)) (pss_one (ps_ret (pe_call G1 hr rfl g1 k1 b1 .nil pass0 (pa_cons (pv 0) (pa_cons (pv 1) (pa_cons (pv 2) (pa_cons (pv 3) pa_nil))))))) pss_nil)
      (pss_one (ps_ret (pe_call G2 hr rfl g2 k2 b2 .nil pass0 (pa_cons (pv 0) (pa_cons (pv 1) (pa_cons (pv 2) (pa_cons (pv 3) pa_nil)))))))), ?_⟩
    refine ⟨_, rfl, _, _, rfl, rfl, _, rfl, ite2 (fun h8 => ?_) (fun h8 => ?_)⟩
    · exact ⟨_, rfl, _, rfl, _, rfl, _, rfl, i, a, b, c, rfl, Nat.zero_le _, by have := of_decide_eq_true h8; omega, k⟩
    · have h8' : ¬ ((i : Int) < 8) := fun z => h8 (decide_eq_true z)
      refine ⟨_, rfl, _, _, rfl, rfl, _, rfl, ite2 (fun h16 => ?_) (fun h16 => ?_)⟩
      · exact ⟨_, rfl, _, rfl, _, rfl, _, rfl, i, a, b, c, rfl, by omega, by have := of_decide_eq_true h16; omega, k⟩
      · have h16' : ¬ ((i : Int) < 16) := fun z => h16 (decide_eq_true z)
        exact ⟨_, rfl, _, rfl, _, rfl, _, rfl, i, a, b, c, rfl, by omega, hhi, k⟩
end
end K00

set_option Elab.async false
set_option linter.all false
set_option maxRecDepth 100000
set_option maxHeartbeats 8000000
/-! Part J: the law -/
namespace K00
open PySem L2
abbrev sLaw : Stmt := top 34
def sizesL : List V := [.int 1, .int 1, .int 1, .int 3, .int 1, .int 1, .int 1, .int 1, .int 1, .int 1, .int 1, .int 1, .int 1, .int 1, .int 1, .int 1, .int 1, .int 1]
theorem sizes_at : ∀ i, i < 18 → sizesL[i]? = some (V.int ((eR i).length + 1)) := by decide +kernel
theorem eR_len : ∀ i, i < 18 → (eR i).length = 0 ∨ (eR i).length = 2 := by decide +kernel
theorem cut_vals (i : Nat) (hi : i < 18) (a b c : V) : cutV [a, b, c] none (some (((eR i).length : Int) + 1)) = eVals i a b c := by
  unfold eVals
  rcases eR_len i hi with e | e
  · rw [e]
    rfl
  · rw [e]
    rfl
def eData (i : Nat) (a b c : PyData) : PyData := .list ([a, b, c].take ((eR i).length + 1))
theorem data_dp {K : PySem.W.Frag} {H : Hp} {l : Addr} {i : Nat} (hi : i < 18) {a b c : V} {x y z : PyData} (hl : H l = some (.lst (eVals i a b c))) (ha : Thing H a x) (hb : Thing H b y) (hc : Thing H c z) : Dp K H (.ref l) (eData i x y z) := by
  unfold eData
  unfold eVals at hl
  rcases eR_len i hi with e | e
  · rw [e] at hl ⊢
    exact .lst (SqL.of hl) (.cons ha.dp .nil)
  · rw [e] at hl ⊢
    exact .lst (SqL.of hl) (.cons ha.dp (.cons hb.dp (.cons hc.dp .nil)))
theorem data_lay {H : Hp} {i : Nat} (hi : i < 18) {a b c : V} {x y z : PyData} (ha : Thing H a x) (hb : Thing H b y) (hc : Thing H c z) : SeqAt.shaped (eData i x y z) = true := by
  obtain ⟨a1, a2⟩ := ha.lay
  obtain ⟨b1, b2⟩ := hb.lay
  obtain ⟨c1, c2⟩ := hc.lay
  unfold eData
  rcases eR_len i hi with e | e
  · rw [e]
    show SeqAt.shaped (.list [x]) = true
    simp only [SeqAt.shaped, PyData.canLay0, PyData.canLayAll0, PyData.depth, PyData.depthAll, a1, Bool.and_true, Bool.true_and, decide_eq_true_eq]
    exact decide_eq_true (by omega)
  · rw [e]
    show SeqAt.shaped (.list [x, y, z]) = true
    simp only [SeqAt.shaped, PyData.canLay0, PyData.canLayAll0, PyData.depth, PyData.depthAll, a1, b1, c1, Bool.and_true, Bool.true_and, decide_eq_true_eq]
    exact decide_eq_true (by omega)
def kData (i : Nat) : PyData := .list (.bool true :: (List.range 18).map fun j => .bool (decide (i = j)))
theorem kdata_lay (i : Nat) : SeqAt.shaped (kData i) = true := by kernel_rfl
theorem dpAll_bl {K : PySem.W.Frag} {H : Hp} (f : Nat → Bool) : ∀ l : List Nat, DpAll K H (l.map fun j => V.bl (f j)) (l.map fun j => PyData.bool (f j))
  | [] => .nil
  | j :: l => .cons (.bl _) (dpAll_bl f l)
theorem kdata_dp {K : PySem.W.Frag} {H : Hp} {l : Addr} {i : Nat} (hl : H l = some (.lst (.bl true :: isK i))) : Dp K H (.ref l) (kData i) := .lst (SqL.of hl) (.cons (.bl true) (dpAll_bl _ _))
theorem is_at (i j : Nat) : decide (V.int (0 + (j : Int)) = V.int (i : Int)) = decide (i = j) := by
  by_cases h : i = j
  · subst h
    rw [decide_eq_true rfl, decide_eq_true]
    rw [Int.zero_add]
  · rw [decide_eq_false h, decide_eq_false]
    intro z
    have z2 := V.int.inj z
    omega
def spLaw (K : PySem.W.Frag) : Sp := fun vs H Q _ => ∃ (a : Addr) (ns : List Int), vs = [.ref a] ∧ SqL K H a (ns.map V.int) ∧ ns.length ≤ 63 ∧ ∀ H', Q (.bl true) H'
section
variable {w : World} {K : PySem.W.Frag} {mg : Str → Option Value} {base : Heap}
theorem scL : FnScope ["_law_script", "_law_bag_here", "_law_sizes", "_law_k", "_law_a", "_law_b", "_law_c", "_law_j"] ["_law_script"] (defScope sLaw) := ⟨rfl, rfl, rfl, by decide +kernel, rfl, by decide +kernel, by decide +kernel⟩
theorem ok_law {f fB fT fF fC : Addr} {fd fdB fdT fdF fdC : FuncData} (F : Fun K "law" "law" sLaw f fd) (T : TxtB mg)
    (GB : FnOk PP w K mg base CX0 1 fB fdB ["_law_script"] (spBag K)) (kB : PySem.W.keepIn K (.ref fB) = true) (bB : Binds K fdB ["_law_script"] []) (gB : mg "_law_bag" = some (.ref fB))
    (GT : FnOk PP w K mg base CX0 2 fT fdT ["_law_bag_here"] spThing) (kT : PySem.W.keepIn K (.ref fT) = true) (bT : Binds K fdT ["_law_bag_here"] []) (gT : mg "_law_thing" = some (.ref fT))
    (GF : FnOk PP w K mg base CX0 3 fF fdF ["_law_k", "_law_a", "_law_b", "_law_c"] (spFields 0 18)) (kF : PySem.W.keepIn K (.ref fF) = true) (bF : Binds K fdF ["_law_k", "_law_a", "_law_b", "_law_c"] []) (gF : mg "_law_fields" = some (.ref fF))
    (GC : FnOk PP w K mg base CX0 3 fC fdC ["_law_k", "_law_a", "_law_b", "_law_c"] spCaught) (kC : PySem.W.keepIn K (.ref fC) = true) (bC : Binds K fdC ["_law_k", "_law_a", "_law_b", "_law_c"] []) (gC : mg "_law_caught" = some (.ref fC)) :
    FnOk PP w K mg base CX0 4 f fd ["_law_script"] (spLaw K) := by
  refine F.ok scL (fun vs H Q E h => ?_) (fun cdv A outer s H vs Q E hr h => ?_)
  · obtain ⟨a, ns, rfl, _⟩ := h
    rfl
  · obtain ⟨a, ns, rfl, hS, hlen, k⟩ := h
    have hr1 : Room 1 _ := hr.mono (by decide)
    have hr2 : Room 2 _ := hr.mono (by decide)
    refine ⟨_, pss_cons (ps_set (i := 1) scL.nd rfl (Or.inl rfl) (pe_call GB hr1 rfl gB kB bB .nil pass0 (pa_cons (pv 0) pa_nil)))
      (pss_cons (ps_set (i := 2) scL.nd rfl (Or.inl rfl) (pe_lst (pa_cons pe_int (pa_cons pe_int (pa_cons pe_int (pa_cons pe_int (pa_cons pe_int (pa_cons pe_int (pa_cons pe_int (pa_cons pe_int (pa_cons pe_int (pa_cons pe_int (pa_cons pe_int (pa_cons pe_int (pa_cons pe_int (pa_cons pe_int (pa_cons pe_int (pa_cons pe_int (pa_cons pe_int (pa_cons pe_int pa_nil))))))))))))))))))))
      (pss_cons (ps_for PassesOwn.never rfl (pi_range1 (by rfl) T.range (pa_cons pe_int pa_nil)) (pg_name (i := 3) scL.nd rfl (Or.inr rfl))
        (pss_cons (ps_par3 (i := 4) (j := 5) (l := 6) rfl scL.nd rfl rfl rfl (by decide) (by decide) (by decide) rfl rfl rfl (pa_cons (pe_call GT hr2 rfl gT kT bT .nil pass0 (pa_cons (pv 1) pa_nil)) (pa_cons (pe_call GT hr2 rfl gT kT bT .nil pass0 (pa_cons (pv 1) pa_nil)) (pa_cons (pe_call GT hr2 rfl gT kT bT .nil pass0 (pa_cons (pv 1) pa_nil)) pa_nil))) (by rfl))
        (pss_cons (ps_if (pt_cmpR (op_neD hr.units) (pe_call GF hr rfl gF kF bF .nil pass0 (pa_cons (pv 3) (pa_cons (pv 4) (pa_cons (pv 5) (pa_cons (pv 6) pa_nil))))) (pe_slice sl_list (pe_lst (pa_cons (pv 4) (pa_cons (pv 5) (pa_cons (pv 6) pa_nil)))) po_none (po_some (pe_ix ix_list (pv 2) (pv 3) (fun _ _ => rfl)))) (nomark _)) (pss_one (ps_ret pe_bl)) pss_nil)
        (pss_one (ps_if (pt_cmpR (op_neD hr.units) (pe_call GC hr rfl gC kC bC .nil pass0 (pa_cons (pv 3) (pa_cons (pv 4) (pa_cons (pv 5) (pa_cons (pv 6) pa_nil)))))
          (pe_op op_cat (pe_lst (pa_cons pe_bl pa_nil)) (pe_lc (own := [("_law_j", 7)]) (g := gName 7) (tt := tYes) rfl scL.nd (pi_range1 (by rfl) T.range (pa_cons pe_int pa_nil)) (blkOk_by (own := [("_law_j", 7)]) (N := ["_law_script", "_law_bag_here", "_law_sizes", "_law_k", "_law_a", "_law_b", "_law_c", "_law_j"]) (sc := defScope sLaw) (by decide +kernel)) (fun _ _ _ _ _ => pg_name (i := 7) scL.nd rfl (Or.inl rfl)) (fun _ _ _ _ _ => pts_nil) (fun _ _ _ _ _ => pe_cmpR op_eq (pv 7) (pv 3) (nomark _)))) (nomark _))
          (pss_one (ps_ret pe_bl)) pss_nil)))))
      (pss_one (ps_ret pe_bl)))), ?_⟩
    refine ⟨_, rfl, a, ns, rfl, hS, hlen, fun b H1 s1 B1 => ?_⟩
    refine ⟨(by show 18 ≤ sizeLine; decide), fun z nz => ?_⟩
    obtain ⟨ob, eb⟩ := B1.some
    have hzb : z ≠ b := (ne_of_none eb nz).symm
    refine ⟨18, rfl, by decide, by decide, for_range (lo := 0) (n := 18) (fun i σ G => ∃ (k1 k2 k3 k4 : Option V), σ = [some (.ref a), some (.ref b), some (.ref z), k1, k2, k3, k4, none] ∧ BagAt G b (12 * i) ∧ G z = some (.lst sizesL))
      ⟨none, none, none, none, rfl, B1.keep (Same.new nz), upd_same⟩ ?_ ?_⟩
    · rintro i σ G hi ⟨k1, k2, k3, k4, rfl, B, hz⟩
      rw [Int.zero_add]
      refine ⟨_, rfl, b, 12 * i, rfl, B, by omega, fun va da G3 ta B3 e3 => ⟨_, rfl, b, 12 * i + 4, rfl, B3, by omega, fun vb db G4 tb B4 e4 => ⟨_, rfl, b, 12 * i + 4 + 4, rfl, B4, by omega, fun vc dc G5 tc B5 e5 => ⟨va, vb, vc, rfl, ?_⟩⟩⟩⟩
      have za := (ta.but e4 B3).but e5 B4
      have zb := tb.but e5 B4
      have hz5 := e5 z _ (e4 z _ (e3 z _ hz hzb) hzb) hzb
      refine ⟨_, rfl, _, rfl, _, rfl, _, rfl, i, va, vb, vc, rfl, Nat.zero_le _, hi, fun l G6 s6 f6 => ?_⟩
      have wa := za.keep s6
      have wb := zb.keep s6
      have wc := tc.keep s6
      have B6 := B5.keep s6
      have hz6 := s6 _ _ hz5
      refine ⟨_, rfl, _, rfl, _, rfl, (by show 3 ≤ sizeLine; decide), fun l2 n2 => ?_⟩
      have s7 := Same.new (o := .lst [va, vb, vc]) n2
      refine ⟨_, rfl, _, rfl, z, sizesL, i, _, rfl, rfl, SqL.of (s7 _ _ hz6), atI_nat (sizes_at i hi), _, rfl, l2, _, rfl, SqL.of upd_same, fun p np => ?_⟩
      rw [cut_vals i hi va vb vc]
      have s8 := s7.trans (Same.new (o := .lst (eVals i va vb vc)) np)
      have lay := data_lay hi wa wb wc
      refine ⟨eData i da db dc, eData i da db dc, data_dp hi (s8 _ _ f6) (wa.keep s8) (wb.keep s8) (wc.keep s8), data_dp hi upd_same (wa.keep s8) (wb.keep s8) (wc.keep s8), lay, lay, _, rfl, ?_⟩
      refine ifF (by rw [SeqAt.eqv_refl _ (SeqAt.canLay_of_shaped lay)]; rfl) ?_
      have B8 := B6.keep s8
      have hz8 := s8 _ _ hz6
      refine ⟨_, rfl, _, rfl, _, rfl, _, rfl, i, va, vb, vc, rfl, hi, fun l3 G9 s9 f9 => ?_⟩
      have B9 := B8.keep s9
      have hz9 := s9 _ _ hz8
      refine ⟨(by show 1 ≤ sizeLine; decide), fun l4 n4 => ?_⟩
      have s10 := Same.new (o := .lst [.bl true]) n4
      refine ⟨18, rfl, by decide, by decide, fun D nD => lc_range (lo := 0) (n := 18) (fun j G' => G' = upd (upd G9 l4 (.lst [.bl true])) D (.lst ((List.range j).map fun j => V.bl (decide (i = j))))) rfl ?_ ?_⟩
      · rintro j G' hj rfl
        refine ⟨rfl, ?_⟩
        unfold tYes
        refine iteT ?_
        refine ⟨_, rfl, _, rfl, rfl, _, upd_same, ?_, ?_⟩
        · rw [List.length_map, List.length_range]
          exact small1000 (by omega)
        · rw [upd_upd, is_at, List.range_succ, List.map_append]
          rfl
      · rintro G' rfl
        have s11 := s10.trans (Same.new (o := .lst ((List.range 18).map fun j => V.bl (decide (i = j)))) nD)
        have s12 := Same.trans s9 s11
        refine ⟨l4, D, [.bl true], isK i, rfl, rfl, Same.new nD _ _ upd_same, upd_same, (by show 19 ≤ sizeLine; decide), fun p2 np2 => ?_⟩
        have s13 := s11.trans (Same.new (o := .lst (.bl true :: isK i)) np2)
        refine ⟨kData i, kData i, kdata_dp (s13 _ _ f9), kdata_dp upd_same, kdata_lay i, kdata_lay i, _, rfl, ?_⟩
        refine ifF (by rw [SeqAt.eqv_refl _ (SeqAt.canLay_of_shaped (kdata_lay i))]; rfl) ?_
        exact ⟨_, _, _, _, rfl, (B9.keep s13).up (by omega), s13 _ _ hz9⟩
    · rintro σ G ⟨k1, k2, k3, k4, rfl, B, hz⟩
      exact k G
end
end K00

set_option Elab.async false
set_option linter.all false
set_option maxRecDepth 100000
set_option maxHeartbeats 8000000
/-! Part K: the facts of the text, the end -/
namespace K00
open PySem L2
section
variable {w : World} {K : PySem.W.Frag} {mg : Str → Option Value} {h : Heap}
theorem mk_EF (i : Nat) (n q f : Str) (hn : eN i = n) (hq : eQ i = q) (hf : eF i = f) (X : K.In h) (G : h.Ns mainGlobals mg) {C fI cc cda : Addr} {nm qq : Str} {N : Addr} {bs bm : List Value} {sn : List Str} {sub : List Value} {ab : Bool} {col : Option Bool} {dd : Option Addr} {k0 k1 k2 k3 k5 : Option Value}
    {cl : Value} {cld : Option Addr} {csl : Array (Option Value)} {ccl : Value} {cdd : Option Addr} {vs : Array Value} {ccs : Array (Option Value)} {file : Str} {tf : Tok} {oc : Value} {od : Option Addr} {kV doc pm : Value} {an : Option Addr} {ct : Value} {osl : Array (Option Value)}
    (a : PySem.W.nsIn K mainGlobals n = some (some (.ref C)))
    (xL : K.lookup C = some (excClassObj nm qq C N bs bm true sn sub ab col dd k0 k1 k2 k3 k5 "ValueError.__new__")) (hbm : PySem.HandSPX.refsVE bm = true)
    (sa : PySem.W.findIn K (.ref C) "__setattr__" = some (some (.builtin "object.__setattr__"))) (iC : PySem.W.findIn K (.ref C) "__init__" = some (some (.ref fI))) (tI : PySem.W.typeIn K (.ref fI) = some (.type "function"))
    (kC : PySem.W.keepIn K (.ref C) = true) (exC : PySem.W.subIn K (.ref C) (.type "BaseException") = some true) (veC : PySem.W.subIn K (.ref C) (.type "ValueError") = some true) (meC : PySem.W.mroIn K C (.ref C) = some true) (tyC : PySem.W.typeIn K (.ref C) = some (.type "type"))
    (sup : PySem.W.ks_superIn K C C "__init__" = some (some (.builtin "ValueError.__init__"))) (opq : PySem.W.nsIn K cStatics "thirdparty.any" = some none) (gS : PySem.W.nsIn K mainGlobals "super" = some none)
    (fn : K.lookup fI = some ⟨oc, od, .func (PySem.W.ksFn "__init__" q (defArgs (sInit i)) (defBody (sInit i)) (defScope (sInit i)) .none kV doc pm an (.ref cda) ct cc), osl⟩)
    (cell : K.lookup cc = some ⟨cl, cld, .cell (some (.ref C)), csl⟩) (code : K.lookup cda = some ⟨ccl, cdd, .fields vs, ccs⟩) (hvs : vs[2]? = some (.str file tf)) (hfile : ((PP.main.file : Str) == file) = true) (rc : PySem.W.codeIn K (.ref cda) q = true)
    (n1 : PySem.W.findIn K (.ref C) f = some none) (n2 : ∀ g ∈ eR i, PySem.W.findIn K (.ref C) g = some none)
    (ga : PySem.W.findIn K (.ref C) "__getattribute__" = some (some (.builtin "BaseException.__getattribute__"))) (gg : PySem.W.findIn K (.ref C) "__getattr__" = some none) (ca : PySem.W.findIn K (.ref C) "__class__" = some (some (.builtin "object.__class__")))
    (gt : PySem.W.specialIn K (.builtin "object.__class__") "__get__" = some (some (.builtin "getset_descriptor.__get__"))) (tk : PySem.W.takesIn K (.builtin "object.__class__") = some true) (mo : PySem.W.mroIn K C (.type "object") = some true) (hd : PySem.W.hasDictIn K C = true) :
    EF K mg i C fI cc cda := by
  subst hn hq hf
  have cs : (PySem.W.clsIn K C).isSome = true := by
    unfold PySem.W.clsIn
    rw [xL]
    rfl
  exact ⟨PySem.W.mg_of X G a, ⟨⟨_, _, _, _, _, _, _, _, _, _, _, _, _, _, _, xL, hbm⟩, sa, iC, tI, kC, exC, veC, meC, tyC, sup, opq, gS, ⟨_, _, _, cell⟩, ⟨_, _, _, _, _, _, code, hvs, hfile⟩, rc, ⟨_, _, _, _, _, _, _, _, fn⟩⟩,
    fun g hg => by
      rcases List.mem_cons.mp hg with e | e
      · rw [e]
        exact n1
      · exact n2 g e,
    ⟨cs, ga, gg, exC, ca, gt, tk, mo⟩, ⟨ga, gg, exC, hd⟩⟩
theorem two3 {C : Addr} (h1 : PySem.W.findIn K (.ref C) "many" = some none) (h2 : PySem.W.findIn K (.ref C) "most" = some none) : ∀ g ∈ eR 3, PySem.W.findIn K (.ref C) g = some none := fun g hg => by
  rcases List.mem_cons.mp (show g ∈ [("many" : Str), "most"] from hg) with e | e
  · rw [e]
    exact h1
  · rw [List.mem_singleton.mp e]
    exact h2
def pick (l : List Addr) (i : Nat) : Addr := l.getD i 0
def matE (K : PySem.W.Frag) (l : List Addr) : Bool := (List.range 18).all fun i => (List.range 18).all fun j => PySem.W.exmOne K (.ref (pick l i)) (.ref (pick l j)) == some (decide (i = j))
def matK (K : PySem.W.Frag) (l : List Addr) : Bool := (List.range 18).all fun i => (List.range 18).all fun j => PySem.W.kitOne K (.ref (pick l i)) (.ref (pick l j)) == some (decide (i = j))
def matB (K : PySem.W.Frag) (B : Addr) (l : List Addr) : Bool := (List.range 18).all fun i => PySem.W.exmOne K (.ref (pick l i)) (.ref B) == some true
def matV (K : PySem.W.Frag) (l : List Addr) : Bool := (List.range 18).all fun i => PySem.W.kitOne K (.ref (pick l i)) (.type "ValueError") == some true
theorem mat1 {f : Nat → Bool} (h : (List.range 18).all f = true) {i : Nat} (hi : i < 18) : f i = true := List.all_eq_true.mp h i (List.mem_range.mpr hi)
theorem all_mk {fa CB : Addr} {C0 C1 C2 C3 C4 C5 C6 C7 C8 C9 C10 C11 C12 C13 C14 C15 C16 C17 I0 I1 I2 I3 I4 I5 I6 I7 I8 I9 I10 I11 I12 I13 I14 I15 I16 I17 L0 L1 L2 L3 L4 L5 L6 L7 L8 L9 L10 L11 L12 L13 L14 L15 L16 L17 D0 D1 D2 D3 D4 D5 D6 D7 D8 D9 D10 D11 D12 D13 D14 D15 D16 D17 f21 f22 f23 f24 f25 f26 f27 f28 f29 f30 f31 f32 f33 f34 : Addr} {oc21 kV21 dc21 pm21 cd21 ct21 : Value} {od21 an21 : Option Addr} {sl21 : Array (Option Value)} {oc22 kV22 dc22 pm22 cd22 ct22 : Value} {od22 an22 : Option Addr} {sl22 : Array (Option Value)} {oc23 kV23 dc23 pm23 cd23 ct23 : Value} {od23 an23 : Option Addr} {sl23 : Array (Option Value)} {oc24 kV24 dc24 pm24 cd24 ct24 : Value} {od24 an24 : Option Addr} {sl24 : Array (Option Value)} {oc25 kV25 dc25 pm25 cd25 ct25 : Value} {od25 an25 : Option Addr} {sl25 : Array (Option Value)} {oc26 kV26 dc26 pm26 cd26 ct26 : Value} {od26 an26 : Option Addr} {sl26 : Array (Option Value)} {oc27 kV27 dc27 pm27 cd27 ct27 : Value} {od27 an27 : Option Addr} {sl27 : Array (Option Value)} {oc28 kV28 dc28 pm28 cd28 ct28 : Value} {od28 an28 : Option Addr} {sl28 : Array (Option Value)} {oc29 kV29 dc29 pm29 cd29 ct29 : Value} {od29 an29 : Option Addr} {sl29 : Array (Option Value)} {oc30 kV30 dc30 pm30 cd30 ct30 : Value} {od30 an30 : Option Addr} {sl30 : Array (Option Value)} {oc31 kV31 dc31 pm31 cd31 ct31 : Value} {od31 an31 : Option Addr} {sl31 : Array (Option Value)} {oc32 kV32 dc32 pm32 cd32 ct32 : Value} {od32 an32 : Option Addr} {sl32 : Array (Option Value)} {oc33 kV33 dc33 pm33 cd33 ct33 : Value} {od33 an33 : Option Addr} {sl33 : Array (Option Value)} {oc34 kV34 dc34 pm34 cd34 ct34 : Value} {od34 an34 : Option Addr} {sl34 : Array (Option Value)} (X : K.In h) (G : h.Ns mainGlobals mg) (hfa : mg "law" = some (.ref fa))
    (E0 : EF K mg 0 C0 I0 L0 D0)
    (E1 : EF K mg 1 C1 I1 L1 D1)
    (E2 : EF K mg 2 C2 I2 L2 D2)
    (E3 : EF K mg 3 C3 I3 L3 D3)
    (E4 : EF K mg 4 C4 I4 L4 D4)
    (E5 : EF K mg 5 C5 I5 L5 D5)
    (E6 : EF K mg 6 C6 I6 L6 D6)
    (E7 : EF K mg 7 C7 I7 L7 D7)
    (E8 : EF K mg 8 C8 I8 L8 D8)
    (E9 : EF K mg 9 C9 I9 L9 D9)
    (E10 : EF K mg 10 C10 I10 L10 D10)
    (E11 : EF K mg 11 C11 I11 L11 D11)
    (E12 : EF K mg 12 C12 I12 L12 D12)
    (E13 : EF K mg 13 C13 I13 L13 D13)
    (E14 : EF K mg 14 C14 I14 L14 D14)
    (E15 : EF K mg 15 C15 I15 L15 D15)
    (E16 : EF K mg 16 C16 I16 L16 D16)
    (E17 : EF K mg 17 C17 I17 L17 D17)
    (aB : PySem.W.nsIn K mainGlobals "BlockError" = some (some (.ref CB))) (aV : PySem.W.nsIn K mainGlobals "ValueError" = some none) (aI : PySem.W.nsIn K mainGlobals "isinstance" = some none)
    (z1 : PySem.W.nsIn K mainGlobals "len" = some none) (z2 : PySem.W.nsIn K mainGlobals "int" = some none) (z3 : PySem.W.nsIn K mainGlobals "list" = some none) (z4 : PySem.W.nsIn K mainGlobals "range" = some none)
    (mE : matE K [C0, C1, C2, C3, C4, C5, C6, C7, C8, C9, C10, C11, C12, C13, C14, C15, C16, C17] = true) (mK : matK K [C0, C1, C2, C3, C4, C5, C6, C7, C8, C9, C10, C11, C12, C13, C14, C15, C16, C17] = true) (mB : matB K CB [C0, C1, C2, C3, C4, C5, C6, C7, C8, C9, C10, C11, C12, C13, C14, C15, C16, C17] = true) (mV : matV K [C0, C1, C2, C3, C4, C5, C6, C7, C8, C9, C10, C11, C12, C13, C14, C15, C16, C17] = true)
    (a21 : PySem.W.nsIn K mainGlobals "_law_bag" = some (some (.ref f21))) (l21 : K.lookup f21 = some ⟨oc21, od21, .func (PySem.W.fnOf "_law_bag" "_law_bag" (defArgs (top 21)) (defBody (top 21)) (defScope (top 21)) .none kV21 dc21 pm21 an21 cd21 ct21), sl21⟩) (c21 : PySem.W.codeIn K cd21 "_law_bag" = true) (k21 : PySem.W.keepIn K (.ref f21) = true)
    (a22 : PySem.W.nsIn K mainGlobals "_law_draw" = some (some (.ref f22))) (l22 : K.lookup f22 = some ⟨oc22, od22, .func (PySem.W.fnOf "_law_draw" "_law_draw" (defArgs (top 22)) (defBody (top 22)) (defScope (top 22)) .none kV22 dc22 pm22 an22 cd22 ct22), sl22⟩) (c22 : PySem.W.codeIn K cd22 "_law_draw" = true) (k22 : PySem.W.keepIn K (.ref f22) = true)
    (a23 : PySem.W.nsIn K mainGlobals "_law_thing" = some (some (.ref f23))) (l23 : K.lookup f23 = some ⟨oc23, od23, .func (PySem.W.fnOf "_law_thing" "_law_thing" (defArgs (top 23)) (defBody (top 23)) (defScope (top 23)) .none kV23 dc23 pm23 an23 cd23 ct23), sl23⟩) (c23 : PySem.W.codeIn K cd23 "_law_thing" = true) (k23 : PySem.W.keepIn K (.ref f23) = true)
    (a24 : PySem.W.nsIn K mainGlobals "_law_raised_0" = some (some (.ref f24))) (l24 : K.lookup f24 = some ⟨oc24, od24, .func (PySem.W.fnOf "_law_raised_0" "_law_raised_0" (defArgs (top 24)) (defBody (top 24)) (defScope (top 24)) .none kV24 dc24 pm24 an24 cd24 ct24), sl24⟩) (c24 : PySem.W.codeIn K cd24 "_law_raised_0" = true) (k24 : PySem.W.keepIn K (.ref f24) = true)
    (a25 : PySem.W.nsIn K mainGlobals "_law_raised_1" = some (some (.ref f25))) (l25 : K.lookup f25 = some ⟨oc25, od25, .func (PySem.W.fnOf "_law_raised_1" "_law_raised_1" (defArgs (top 25)) (defBody (top 25)) (defScope (top 25)) .none kV25 dc25 pm25 an25 cd25 ct25), sl25⟩) (c25 : PySem.W.codeIn K cd25 "_law_raised_1" = true) (k25 : PySem.W.keepIn K (.ref f25) = true)
    (a26 : PySem.W.nsIn K mainGlobals "_law_raised_2" = some (some (.ref f26))) (l26 : K.lookup f26 = some ⟨oc26, od26, .func (PySem.W.fnOf "_law_raised_2" "_law_raised_2" (defArgs (top 26)) (defBody (top 26)) (defScope (top 26)) .none kV26 dc26 pm26 an26 cd26 ct26), sl26⟩) (c26 : PySem.W.codeIn K cd26 "_law_raised_2" = true) (k26 : PySem.W.keepIn K (.ref f26) = true)
    (a27 : PySem.W.nsIn K mainGlobals "_law_raised" = some (some (.ref f27))) (l27 : K.lookup f27 = some ⟨oc27, od27, .func (PySem.W.fnOf "_law_raised" "_law_raised" (defArgs (top 27)) (defBody (top 27)) (defScope (top 27)) .none kV27 dc27 pm27 an27 cd27 ct27), sl27⟩) (c27 : PySem.W.codeIn K cd27 "_law_raised" = true) (k27 : PySem.W.keepIn K (.ref f27) = true)
    (a28 : PySem.W.nsIn K mainGlobals "_law_kinds_of" = some (some (.ref f28))) (l28 : K.lookup f28 = some ⟨oc28, od28, .func (PySem.W.fnOf "_law_kinds_of" "_law_kinds_of" (defArgs (top 28)) (defBody (top 28)) (defScope (top 28)) .none kV28 dc28 pm28 an28 cd28 ct28), sl28⟩) (c28 : PySem.W.codeIn K cd28 "_law_kinds_of" = true) (k28 : PySem.W.keepIn K (.ref f28) = true)
    (a29 : PySem.W.nsIn K mainGlobals "_law_caught" = some (some (.ref f29))) (l29 : K.lookup f29 = some ⟨oc29, od29, .func (PySem.W.fnOf "_law_caught" "_law_caught" (defArgs (top 29)) (defBody (top 29)) (defScope (top 29)) .none kV29 dc29 pm29 an29 cd29 ct29), sl29⟩) (c29 : PySem.W.codeIn K cd29 "_law_caught" = true) (k29 : PySem.W.keepIn K (.ref f29) = true)
    (a30 : PySem.W.nsIn K mainGlobals "_law_fields_0" = some (some (.ref f30))) (l30 : K.lookup f30 = some ⟨oc30, od30, .func (PySem.W.fnOf "_law_fields_0" "_law_fields_0" (defArgs (top 30)) (defBody (top 30)) (defScope (top 30)) .none kV30 dc30 pm30 an30 cd30 ct30), sl30⟩) (c30 : PySem.W.codeIn K cd30 "_law_fields_0" = true) (k30 : PySem.W.keepIn K (.ref f30) = true)
    (a31 : PySem.W.nsIn K mainGlobals "_law_fields_1" = some (some (.ref f31))) (l31 : K.lookup f31 = some ⟨oc31, od31, .func (PySem.W.fnOf "_law_fields_1" "_law_fields_1" (defArgs (top 31)) (defBody (top 31)) (defScope (top 31)) .none kV31 dc31 pm31 an31 cd31 ct31), sl31⟩) (c31 : PySem.W.codeIn K cd31 "_law_fields_1" = true) (k31 : PySem.W.keepIn K (.ref f31) = true)
    (a32 : PySem.W.nsIn K mainGlobals "_law_fields_2" = some (some (.ref f32))) (l32 : K.lookup f32 = some ⟨oc32, od32, .func (PySem.W.fnOf "_law_fields_2" "_law_fields_2" (defArgs (top 32)) (defBody (top 32)) (defScope (top 32)) .none kV32 dc32 pm32 an32 cd32 ct32), sl32⟩) (c32 : PySem.W.codeIn K cd32 "_law_fields_2" = true) (k32 : PySem.W.keepIn K (.ref f32) = true)
    (a33 : PySem.W.nsIn K mainGlobals "_law_fields" = some (some (.ref f33))) (l33 : K.lookup f33 = some ⟨oc33, od33, .func (PySem.W.fnOf "_law_fields" "_law_fields" (defArgs (top 33)) (defBody (top 33)) (defScope (top 33)) .none kV33 dc33 pm33 an33 cd33 ct33), sl33⟩) (c33 : PySem.W.codeIn K cd33 "_law_fields" = true) (k33 : PySem.W.keepIn K (.ref f33) = true)
    (a34 : PySem.W.nsIn K mainGlobals "law" = some (some (.ref f34))) (l34 : K.lookup f34 = some ⟨oc34, od34, .func (PySem.W.fnOf "law" "law" (defArgs (top 34)) (defBody (top 34)) (defScope (top 34)) .none kV34 dc34 pm34 an34 cd34 ct34), sl34⟩) (c34 : PySem.W.codeIn K cd34 "law" = true) (k34 : PySem.W.keepIn K (.ref f34) = true) :
    ∃ fd : FuncData, (∀ (s : Shared) (v : Value), BindsTo s fd ⟨[v], []⟩ [("_law_script", v)]) ∧ ∀ base : Heap, K.In base → base.Ns mainGlobals mg → FnOk PP w K mg base CX0 4 fa fd ["_law_script"] (spLaw K) := by
  have e := hfa.symm.trans (PySem.W.mg_of X G a34)
  cases e
  have T : Errs K mg (pick [C0, C1, C2, C3, C4, C5, C6, C7, C8, C9, C10, C11, C12, C13, C14, C15, C16, C17]) (pick [I0, I1, I2, I3, I4, I5, I6, I7, I8, I9, I10, I11, I12, I13, I14, I15, I16, I17]) (pick [L0, L1, L2, L3, L4, L5, L6, L7, L8, L9, L10, L11, L12, L13, L14, L15, L16, L17]) (pick [D0, D1, D2, D3, D4, D5, D6, D7, D8, D9, D10, D11, D12, D13, D14, D15, D16, D17]) CB := {
    f := fun i hi => by
      match i, hi with
      | 0, _ => exact E0
      | 1, _ => exact E1
      | 2, _ => exact E2
      | 3, _ => exact E3
      | 4, _ => exact E4
      | 5, _ => exact E5
      | 6, _ => exact E6
      | 7, _ => exact E7
      | 8, _ => exact E8
      | 9, _ => exact E9
      | 10, _ => exact E10
      | 11, _ => exact E11
      | 12, _ => exact E12
      | 13, _ => exact E13
      | 14, _ => exact E14
      | 15, _ => exact E15
      | 16, _ => exact E16
      | 17, _ => exact E17
      | n + 18, hi => exact absurd hi (by omega)
    e := fun i j hi hj => beq_iff_eq.mp (mat1 (mat1 mE hi) hj)
    b := fun i hi => beq_iff_eq.mp (mat1 mB hi)
    k := fun i j hi hj => beq_iff_eq.mp (mat1 (mat1 mK hi) hj)
    v := fun i hi => beq_iff_eq.mp (mat1 mV hi)
    gB := PySem.W.mg_of X G aB
    gV := PySem.W.mg_none_of X G aV
    gI := PySem.W.mg_none_of X G aI }
  have TB : TxtB mg := ⟨PySem.W.mg_none_of X G z1, PySem.W.mg_none_of X G z2, PySem.W.mg_none_of X G z3, PySem.W.mg_none_of X G z4⟩
  have F21 := fun_mk (st := top 21) l21 c21 k21
  have g21 := PySem.W.mg_of X G a21
  have b21 := F21.binds (ps := ["_law_script"]) fun _ _ _ _ _ _ us hl => match us, hl with | [_], _ => rfl
  have F22 := fun_mk (st := top 22) l22 c22 k22
  have g22 := PySem.W.mg_of X G a22
  have b22 := F22.binds (ps := ["_law_bag_here", "_law_limit"]) fun _ _ _ _ _ _ us hl => match us, hl with | [_, _], _ => rfl
  have F23 := fun_mk (st := top 23) l23 c23 k23
  have g23 := PySem.W.mg_of X G a23
  have b23 := F23.binds (ps := ["_law_bag_here"]) fun _ _ _ _ _ _ us hl => match us, hl with | [_], _ => rfl
  have F24 := fun_mk (st := top 24) l24 c24 k24
  have g24 := PySem.W.mg_of X G a24
  have b24 := F24.binds (ps := ["_law_k", "_law_a", "_law_b", "_law_c"]) fun _ _ _ _ _ _ us hl => match us, hl with | [_, _, _, _], _ => rfl
  have F25 := fun_mk (st := top 25) l25 c25 k25
  have g25 := PySem.W.mg_of X G a25
  have b25 := F25.binds (ps := ["_law_k", "_law_a", "_law_b", "_law_c"]) fun _ _ _ _ _ _ us hl => match us, hl with | [_, _, _, _], _ => rfl
  have F26 := fun_mk (st := top 26) l26 c26 k26
  have g26 := PySem.W.mg_of X G a26
  have b26 := F26.binds (ps := ["_law_k", "_law_a", "_law_b", "_law_c"]) fun _ _ _ _ _ _ us hl => match us, hl with | [_, _, _, _], _ => rfl
  have F27 := fun_mk (st := top 27) l27 c27 k27
  have g27 := PySem.W.mg_of X G a27
  have b27 := F27.binds (ps := ["_law_k", "_law_a", "_law_b", "_law_c"]) fun _ _ _ _ _ _ us hl => match us, hl with | [_, _, _, _], _ => rfl
  have F28 := fun_mk (st := top 28) l28 c28 k28
  have g28 := PySem.W.mg_of X G a28
  have b28 := F28.binds (ps := ["_law_e"]) fun _ _ _ _ _ _ us hl => match us, hl with | [_], _ => rfl
  have F29 := fun_mk (st := top 29) l29 c29 k29
  have g29 := PySem.W.mg_of X G a29
  have b29 := F29.binds (ps := ["_law_k", "_law_a", "_law_b", "_law_c"]) fun _ _ _ _ _ _ us hl => match us, hl with | [_, _, _, _], _ => rfl
  have F30 := fun_mk (st := top 30) l30 c30 k30
  have g30 := PySem.W.mg_of X G a30
  have b30 := F30.binds (ps := ["_law_k", "_law_a", "_law_b", "_law_c"]) fun _ _ _ _ _ _ us hl => match us, hl with | [_, _, _, _], _ => rfl
  have F31 := fun_mk (st := top 31) l31 c31 k31
  have g31 := PySem.W.mg_of X G a31
  have b31 := F31.binds (ps := ["_law_k", "_law_a", "_law_b", "_law_c"]) fun _ _ _ _ _ _ us hl => match us, hl with | [_, _, _, _], _ => rfl
  have F32 := fun_mk (st := top 32) l32 c32 k32
  have g32 := PySem.W.mg_of X G a32
  have b32 := F32.binds (ps := ["_law_k", "_law_a", "_law_b", "_law_c"]) fun _ _ _ _ _ _ us hl => match us, hl with | [_, _, _, _], _ => rfl
  have F33 := fun_mk (st := top 33) l33 c33 k33
  have g33 := PySem.W.mg_of X G a33
  have b33 := F33.binds (ps := ["_law_k", "_law_a", "_law_b", "_law_c"]) fun _ _ _ _ _ _ us hl => match us, hl with | [_, _, _, _], _ => rfl
  have F34 := fun_mk (st := top 34) l34 c34 k34
  have g34 := PySem.W.mg_of X G a34
  refine ⟨_, fun s v => .of_eq rfl, fun base _ _ => ok_law F34 TB (ok_bag F21 TB) k21 b21 g21 (ok_thing F23 TB ⟨g22, k22⟩ F22 b22) k23 b23 g23
    (ok_fi F33 (ok_f0 F30 T (ok_r0 F24 T) k24 b24 g24) k30 b30 g30 (ok_f1 F31 T (ok_r1 F25 T) k25 b25 g25) k31 b31 g31 (ok_f2 F32 T (ok_r2 F26 T) k26 b26 g26) k32 b32 g32) k33 b33 g33
    (ok_ca F29 T (ok_ra F27 T F24 b24 g24 F25 b25 g25 F26 b26 g26) k27 b27 g27 (ok_ki F28 T) k28 b28 g28) k29 b29 g29⟩
theorem walk {l : PySem.W.OpenLaw} {q : Program} {loose : List Str} {XP : (Str → Option Value) → Heap → Prop} {YP : World → Heap → Prop} {d : DefRec} {K : Params → PySem.W.Frag} (hn : l.most = some 63) (hdf : d.params.defaults = [])
    (hY : ∀ (w : World) (h : Heap), YP w h → (K w.params).In h)
    (F : ∀ (w : World) (mg : Str → Option Value) (fa : Addr) (h : Heap), (K w.params).In h → h.Ns mainGlobals mg → mg d.name = some (.ref fa) →
      ∃ fd : FuncData, (∀ (s : Shared) (u : Value), BindsTo s fd ⟨[u], []⟩ [("_law_script", u)]) ∧ ∀ base : Heap, (K w.params).In base → base.Ns mainGlobals mg → FnOk l.prog w (K w.params) mg base CX0 4 fa fd ["_law_script"] (spLaw (K w.params))) :
    PySem.W.WalkO q loose XP YP l.row.toRowW d [] (fun f vs => PySem.call f vs) :=
  L2.walk_of (n := 63) (k := 4) (x := "_law_script") (CX := fun _ => CX0) (sp := fun w => spLaw (K w.params)) hn (by decide) hdf ⟨rfl, by decide, by decide⟩ hY F (fun _ _ a ns hl _ hS => ⟨a, ns, rfl, hS, hl, fun _ => rfl⟩) fun _ _ _ _ _ z => z
end
end K00

set_option Elab.async false
set_option linter.all false
set_option maxRecDepth 100000
open PySem PySem.W PyProof.Rows
set_option maxRecDepth 100000 in
set_option maxHeartbeats 0 in
theorem PySem.Challenge.cw_tagblocks_k00_errors_made_from_their_fie_holds : PySem.Challenge.rw_tagblocks_k00_errors_made_from_their_fie.Holds := by
  w_on; o_law; k_head; (case hw => w_witness2)
  k_fill
  refine K00.walk (l := PySem.Challenge.rw_tagblocks_k00_errors_made_from_their_fie) rfl rfl (fun w h Y => PySem.W.kIn_of Y) ?F
  case F =>
    intro w mg fa h KX G hmg
    refine' K00.all_mk KX G hmg (K00.mk_EF 0 "BadKind" "BadKind.__init__" "kind" rfl rfl rfl KX G ?a_0 ?xL_0 ?hbm_0 ?sa_0 ?iC_0 ?tI_0 ?kC_0 ?exC_0 ?veC_0 ?meC_0 ?tyC_0 ?sup_0 ?opq_0 ?gS_0 ?fn_0 ?cell_0 ?code_0 ?hvs_0 ?hfile_0 ?rc_0 ?n1_0 ?n2_0 ?ga_0 ?gg_0 ?ca_0 ?gt_0 ?tk_0 ?mo_0 ?hd_0)
      (K00.mk_EF 1 "BadLine" "BadLine.__init__" "line" rfl rfl rfl KX G ?a_1 ?xL_1 ?hbm_1 ?sa_1 ?iC_1 ?tI_1 ?kC_1 ?exC_1 ?veC_1 ?meC_1 ?tyC_1 ?sup_1 ?opq_1 ?gS_1 ?fn_1 ?cell_1 ?code_1 ?hvs_1 ?hfile_1 ?rc_1 ?n1_1 ?n2_1 ?ga_1 ?gg_1 ?ca_1 ?gt_1 ?tk_1 ?mo_1 ?hd_1)
      (K00.mk_EF 2 "Refused" "Refused.__init__" "line" rfl rfl rfl KX G ?a_2 ?xL_2 ?hbm_2 ?sa_2 ?iC_2 ?tI_2 ?kC_2 ?exC_2 ?veC_2 ?meC_2 ?tyC_2 ?sup_2 ?opq_2 ?gS_2 ?fn_2 ?cell_2 ?code_2 ?hvs_2 ?hfile_2 ?rc_2 ?n1_2 ?n2_2 ?ga_2 ?gg_2 ?ca_2 ?gt_2 ?tk_2 ?mo_2 ?hd_2)
      (K00.mk_EF 3 "TooMany" "TooMany.__init__" "what" rfl rfl rfl KX G ?a_3 ?xL_3 ?hbm_3 ?sa_3 ?iC_3 ?tI_3 ?kC_3 ?exC_3 ?veC_3 ?meC_3 ?tyC_3 ?sup_3 ?opq_3 ?gS_3 ?fn_3 ?cell_3 ?code_3 ?hvs_3 ?hfile_3 ?rc_3 ?n1_3 (K00.two3 ?n2a_3 ?n2b_3) ?ga_3 ?gg_3 ?ca_3 ?gt_3 ?tk_3 ?mo_3 ?hd_3)
      (K00.mk_EF 4 "BadPromise" "BadPromise.__init__" "promise" rfl rfl rfl KX G ?a_4 ?xL_4 ?hbm_4 ?sa_4 ?iC_4 ?tI_4 ?kC_4 ?exC_4 ?veC_4 ?meC_4 ?tyC_4 ?sup_4 ?opq_4 ?gS_4 ?fn_4 ?cell_4 ?code_4 ?hvs_4 ?hfile_4 ?rc_4 ?n1_4 ?n2_4 ?ga_4 ?gg_4 ?ca_4 ?gt_4 ?tk_4 ?mo_4 ?hd_4)
      (K00.mk_EF 5 "BadRule" "BadRule.__init__" "what" rfl rfl rfl KX G ?a_5 ?xL_5 ?hbm_5 ?sa_5 ?iC_5 ?tI_5 ?kC_5 ?exC_5 ?veC_5 ?meC_5 ?tyC_5 ?sup_5 ?opq_5 ?gS_5 ?fn_5 ?cell_5 ?code_5 ?hvs_5 ?hfile_5 ?rc_5 ?n1_5 ?n2_5 ?ga_5 ?gg_5 ?ca_5 ?gt_5 ?tk_5 ?mo_5 ?hd_5)
      (K00.mk_EF 6 "BadSize" "BadSize.__init__" "size" rfl rfl rfl KX G ?a_6 ?xL_6 ?hbm_6 ?sa_6 ?iC_6 ?tI_6 ?kC_6 ?exC_6 ?veC_6 ?meC_6 ?tyC_6 ?sup_6 ?opq_6 ?gS_6 ?fn_6 ?cell_6 ?code_6 ?hvs_6 ?hfile_6 ?rc_6 ?n1_6 ?n2_6 ?ga_6 ?gg_6 ?ca_6 ?gt_6 ?tk_6 ?mo_6 ?hd_6)
      (K00.mk_EF 7 "BadNumber" "BadNumber.__init__" "number" rfl rfl rfl KX G ?a_7 ?xL_7 ?hbm_7 ?sa_7 ?iC_7 ?tI_7 ?kC_7 ?exC_7 ?veC_7 ?meC_7 ?tyC_7 ?sup_7 ?opq_7 ?gS_7 ?fn_7 ?cell_7 ?code_7 ?hvs_7 ?hfile_7 ?rc_7 ?n1_7 ?n2_7 ?ga_7 ?gg_7 ?ca_7 ?gt_7 ?tk_7 ?mo_7 ?hd_7)
      (K00.mk_EF 8 "BadCount" "BadCount.__init__" "many" rfl rfl rfl KX G ?a_8 ?xL_8 ?hbm_8 ?sa_8 ?iC_8 ?tI_8 ?kC_8 ?exC_8 ?veC_8 ?meC_8 ?tyC_8 ?sup_8 ?opq_8 ?gS_8 ?fn_8 ?cell_8 ?code_8 ?hvs_8 ?hfile_8 ?rc_8 ?n1_8 ?n2_8 ?ga_8 ?gg_8 ?ca_8 ?gt_8 ?tk_8 ?mo_8 ?hd_8)
      (K00.mk_EF 9 "BadCase" "BadCase.__init__" "case" rfl rfl rfl KX G ?a_9 ?xL_9 ?hbm_9 ?sa_9 ?iC_9 ?tI_9 ?kC_9 ?exC_9 ?veC_9 ?meC_9 ?tyC_9 ?sup_9 ?opq_9 ?gS_9 ?fn_9 ?cell_9 ?code_9 ?hvs_9 ?hfile_9 ?rc_9 ?n1_9 ?n2_9 ?ga_9 ?gg_9 ?ca_9 ?gt_9 ?tk_9 ?mo_9 ?hd_9)
      (K00.mk_EF 10 "BadOutcomes" "BadOutcomes.__init__" "word" rfl rfl rfl KX G ?a_10 ?xL_10 ?hbm_10 ?sa_10 ?iC_10 ?tI_10 ?kC_10 ?exC_10 ?veC_10 ?meC_10 ?tyC_10 ?sup_10 ?opq_10 ?gS_10 ?fn_10 ?cell_10 ?code_10 ?hvs_10 ?hfile_10 ?rc_10 ?n1_10 ?n2_10 ?ga_10 ?gg_10 ?ca_10 ?gt_10 ?tk_10 ?mo_10 ?hd_10)
      (K00.mk_EF 11 "BadName" "BadName.__init__" "name" rfl rfl rfl KX G ?a_11 ?xL_11 ?hbm_11 ?sa_11 ?iC_11 ?tI_11 ?kC_11 ?exC_11 ?veC_11 ?meC_11 ?tyC_11 ?sup_11 ?opq_11 ?gS_11 ?fn_11 ?cell_11 ?code_11 ?hvs_11 ?hfile_11 ?rc_11 ?n1_11 ?n2_11 ?ga_11 ?gg_11 ?ca_11 ?gt_11 ?tk_11 ?mo_11 ?hd_11)
      (K00.mk_EF 12 "BadLength" "BadLength.__init__" "length" rfl rfl rfl KX G ?a_12 ?xL_12 ?hbm_12 ?sa_12 ?iC_12 ?tI_12 ?kC_12 ?exC_12 ?veC_12 ?meC_12 ?tyC_12 ?sup_12 ?opq_12 ?gS_12 ?fn_12 ?cell_12 ?code_12 ?hvs_12 ?hfile_12 ?rc_12 ?n1_12 ?n2_12 ?ga_12 ?gg_12 ?ca_12 ?gt_12 ?tk_12 ?mo_12 ?hd_12)
      (K00.mk_EF 13 "OtherKinds" "OtherKinds.__init__" "part" rfl rfl rfl KX G ?a_13 ?xL_13 ?hbm_13 ?sa_13 ?iC_13 ?tI_13 ?kC_13 ?exC_13 ?veC_13 ?meC_13 ?tyC_13 ?sup_13 ?opq_13 ?gS_13 ?fn_13 ?cell_13 ?code_13 ?hvs_13 ?hfile_13 ?rc_13 ?n1_13 ?n2_13 ?ga_13 ?gg_13 ?ca_13 ?gt_13 ?tk_13 ?mo_13 ?hd_13)
      (K00.mk_EF 14 "OtherRules" "OtherRules.__init__" "part" rfl rfl rfl KX G ?a_14 ?xL_14 ?hbm_14 ?sa_14 ?iC_14 ?tI_14 ?kC_14 ?exC_14 ?veC_14 ?meC_14 ?tyC_14 ?sup_14 ?opq_14 ?gS_14 ?fn_14 ?cell_14 ?code_14 ?hvs_14 ?hfile_14 ?rc_14 ?n1_14 ?n2_14 ?ga_14 ?gg_14 ?ca_14 ?gt_14 ?tk_14 ?mo_14 ?hd_14)
      (K00.mk_EF 15 "Broken" "Broken.__init__" "part" rfl rfl rfl KX G ?a_15 ?xL_15 ?hbm_15 ?sa_15 ?iC_15 ?tI_15 ?kC_15 ?exC_15 ?veC_15 ?meC_15 ?tyC_15 ?sup_15 ?opq_15 ?gS_15 ?fn_15 ?cell_15 ?code_15 ?hvs_15 ?hfile_15 ?rc_15 ?n1_15 ?n2_15 ?ga_15 ?gg_15 ?ca_15 ?gt_15 ?tk_15 ?mo_15 ?hd_15)
      (K00.mk_EF 16 "BadGap" "BadGap.__init__" "gap" rfl rfl rfl KX G ?a_16 ?xL_16 ?hbm_16 ?sa_16 ?iC_16 ?tI_16 ?kC_16 ?exC_16 ?veC_16 ?meC_16 ?tyC_16 ?sup_16 ?opq_16 ?gS_16 ?fn_16 ?cell_16 ?code_16 ?hvs_16 ?hfile_16 ?rc_16 ?n1_16 ?n2_16 ?ga_16 ?gg_16 ?ca_16 ?gt_16 ?tk_16 ?mo_16 ?hd_16)
      (K00.mk_EF 17 "BadMap" "BadMap.__init__" "index" rfl rfl rfl KX G ?a_17 ?xL_17 ?hbm_17 ?sa_17 ?iC_17 ?tI_17 ?kC_17 ?exC_17 ?veC_17 ?meC_17 ?tyC_17 ?sup_17 ?opq_17 ?gS_17 ?fn_17 ?cell_17 ?code_17 ?hvs_17 ?hfile_17 ?rc_17 ?n1_17 ?n2_17 ?ga_17 ?gg_17 ?ca_17 ?gt_17 ?tk_17 ?mo_17 ?hd_17) ?aB ?aV ?aI ?z1 ?z2 ?z3 ?z4 ?mE ?mK ?mB ?mV ?a21 ?l21 ?c21 ?k21 ?a22 ?l22 ?c22 ?k22 ?a23 ?l23 ?c23 ?k23 ?a24 ?l24 ?c24 ?k24 ?a25 ?l25 ?c25 ?k25 ?a26 ?l26 ?c26 ?k26 ?a27 ?l27 ?c27 ?k27 ?a28 ?l28 ?c28 ?k28 ?a29 ?l29 ?c29 ?k29 ?a30 ?l30 ?c30 ?k30 ?a31 ?l31 ?c31 ?k31 ?a32 ?l32 ?c32 ?k32 ?a33 ?l33 ?c33 ?k33 ?a34 ?l34 ?c34 ?k34
    (case a_0 => k_is); (case xL_0 => k_is); (case hbm_0 => decide +kernel); (case sa_0 => k_is); (case iC_0 => k_is); (case tI_0 => k_is); (case kC_0 => k_is); (case exC_0 => k_is); (case veC_0 => k_is); (case meC_0 => k_is); (case tyC_0 => k_is); (case sup_0 => ks_is); (case opq_0 => k_is); (case gS_0 => k_is); (case fn_0 => k_is); (case cell_0 => k_is); (case code_0 => k_is); (case hvs_0 => rfl); (case hfile_0 => decide +kernel); (case rc_0 => k_is); (case n1_0 => k_is); (case n2_0 => exact fun g hg => nomatch hg); (case ga_0 => k_is); (case gg_0 => k_is); (case ca_0 => k_is); (case gt_0 => k_is); (case tk_0 => k_is); (case mo_0 => k_is); (case hd_0 => k_is)
    (case a_1 => k_is); (case xL_1 => k_is); (case hbm_1 => decide +kernel); (case sa_1 => k_is); (case iC_1 => k_is); (case tI_1 => k_is); (case kC_1 => k_is); (case exC_1 => k_is); (case veC_1 => k_is); (case meC_1 => k_is); (case tyC_1 => k_is); (case sup_1 => ks_is); (case opq_1 => k_is); (case gS_1 => k_is); (case fn_1 => k_is); (case cell_1 => k_is); (case code_1 => k_is); (case hvs_1 => rfl); (case hfile_1 => decide +kernel); (case rc_1 => k_is); (case n1_1 => k_is); (case n2_1 => exact fun g hg => nomatch hg); (case ga_1 => k_is); (case gg_1 => k_is); (case ca_1 => k_is); (case gt_1 => k_is); (case tk_1 => k_is); (case mo_1 => k_is); (case hd_1 => k_is)
    (case a_2 => k_is); (case xL_2 => k_is); (case hbm_2 => decide +kernel); (case sa_2 => k_is); (case iC_2 => k_is); (case tI_2 => k_is); (case kC_2 => k_is); (case exC_2 => k_is); (case veC_2 => k_is); (case meC_2 => k_is); (case tyC_2 => k_is); (case sup_2 => ks_is); (case opq_2 => k_is); (case gS_2 => k_is); (case fn_2 => k_is); (case cell_2 => k_is); (case code_2 => k_is); (case hvs_2 => rfl); (case hfile_2 => decide +kernel); (case rc_2 => k_is); (case n1_2 => k_is); (case n2_2 => exact fun g hg => nomatch hg); (case ga_2 => k_is); (case gg_2 => k_is); (case ca_2 => k_is); (case gt_2 => k_is); (case tk_2 => k_is); (case mo_2 => k_is); (case hd_2 => k_is)
    (case a_3 => k_is); (case xL_3 => k_is); (case hbm_3 => decide +kernel); (case sa_3 => k_is); (case iC_3 => k_is); (case tI_3 => k_is); (case kC_3 => k_is); (case exC_3 => k_is); (case veC_3 => k_is); (case meC_3 => k_is); (case tyC_3 => k_is); (case sup_3 => ks_is); (case opq_3 => k_is); (case gS_3 => k_is); (case fn_3 => k_is); (case cell_3 => k_is); (case code_3 => k_is); (case hvs_3 => rfl); (case hfile_3 => decide +kernel); (case rc_3 => k_is); (case n1_3 => k_is); (case n2a_3 => k_is); (case n2b_3 => k_is); (case ga_3 => k_is); (case gg_3 => k_is); (case ca_3 => k_is); (case gt_3 => k_is); (case tk_3 => k_is); (case mo_3 => k_is); (case hd_3 => k_is)
    (case a_4 => k_is); (case xL_4 => k_is); (case hbm_4 => decide +kernel); (case sa_4 => k_is); (case iC_4 => k_is); (case tI_4 => k_is); (case kC_4 => k_is); (case exC_4 => k_is); (case veC_4 => k_is); (case meC_4 => k_is); (case tyC_4 => k_is); (case sup_4 => ks_is); (case opq_4 => k_is); (case gS_4 => k_is); (case fn_4 => k_is); (case cell_4 => k_is); (case code_4 => k_is); (case hvs_4 => rfl); (case hfile_4 => decide +kernel); (case rc_4 => k_is); (case n1_4 => k_is); (case n2_4 => exact fun g hg => nomatch hg); (case ga_4 => k_is); (case gg_4 => k_is); (case ca_4 => k_is); (case gt_4 => k_is); (case tk_4 => k_is); (case mo_4 => k_is); (case hd_4 => k_is)
    (case a_5 => k_is); (case xL_5 => k_is); (case hbm_5 => decide +kernel); (case sa_5 => k_is); (case iC_5 => k_is); (case tI_5 => k_is); (case kC_5 => k_is); (case exC_5 => k_is); (case veC_5 => k_is); (case meC_5 => k_is); (case tyC_5 => k_is); (case sup_5 => ks_is); (case opq_5 => k_is); (case gS_5 => k_is); (case fn_5 => k_is); (case cell_5 => k_is); (case code_5 => k_is); (case hvs_5 => rfl); (case hfile_5 => decide +kernel); (case rc_5 => k_is); (case n1_5 => k_is); (case n2_5 => exact fun g hg => nomatch hg); (case ga_5 => k_is); (case gg_5 => k_is); (case ca_5 => k_is); (case gt_5 => k_is); (case tk_5 => k_is); (case mo_5 => k_is); (case hd_5 => k_is)
    (case a_6 => k_is); (case xL_6 => k_is); (case hbm_6 => decide +kernel); (case sa_6 => k_is); (case iC_6 => k_is); (case tI_6 => k_is); (case kC_6 => k_is); (case exC_6 => k_is); (case veC_6 => k_is); (case meC_6 => k_is); (case tyC_6 => k_is); (case sup_6 => ks_is); (case opq_6 => k_is); (case gS_6 => k_is); (case fn_6 => k_is); (case cell_6 => k_is); (case code_6 => k_is); (case hvs_6 => rfl); (case hfile_6 => decide +kernel); (case rc_6 => k_is); (case n1_6 => k_is); (case n2_6 => exact fun g hg => nomatch hg); (case ga_6 => k_is); (case gg_6 => k_is); (case ca_6 => k_is); (case gt_6 => k_is); (case tk_6 => k_is); (case mo_6 => k_is); (case hd_6 => k_is)
    (case a_7 => k_is); (case xL_7 => k_is); (case hbm_7 => decide +kernel); (case sa_7 => k_is); (case iC_7 => k_is); (case tI_7 => k_is); (case kC_7 => k_is); (case exC_7 => k_is); (case veC_7 => k_is); (case meC_7 => k_is); (case tyC_7 => k_is); (case sup_7 => ks_is); (case opq_7 => k_is); (case gS_7 => k_is); (case fn_7 => k_is); (case cell_7 => k_is); (case code_7 => k_is); (case hvs_7 => rfl); (case hfile_7 => decide +kernel); (case rc_7 => k_is); (case n1_7 => k_is); (case n2_7 => exact fun g hg => nomatch hg); (case ga_7 => k_is); (case gg_7 => k_is); (case ca_7 => k_is); (case gt_7 => k_is); (case tk_7 => k_is); (case mo_7 => k_is); (case hd_7 => k_is)
    (case a_8 => k_is); (case xL_8 => k_is); (case hbm_8 => decide +kernel); (case sa_8 => k_is); (case iC_8 => k_is); (case tI_8 => k_is); (case kC_8 => k_is); (case exC_8 => k_is); (case veC_8 => k_is); (case meC_8 => k_is); (case tyC_8 => k_is); (case sup_8 => ks_is); (case opq_8 => k_is); (case gS_8 => k_is); (case fn_8 => k_is); (case cell_8 => k_is); (case code_8 => k_is); (case hvs_8 => rfl); (case hfile_8 => decide +kernel); (case rc_8 => k_is); (case n1_8 => k_is); (case n2_8 => exact fun g hg => nomatch hg); (case ga_8 => k_is); (case gg_8 => k_is); (case ca_8 => k_is); (case gt_8 => k_is); (case tk_8 => k_is); (case mo_8 => k_is); (case hd_8 => k_is)
    (case a_9 => k_is); (case xL_9 => k_is); (case hbm_9 => decide +kernel); (case sa_9 => k_is); (case iC_9 => k_is); (case tI_9 => k_is); (case kC_9 => k_is); (case exC_9 => k_is); (case veC_9 => k_is); (case meC_9 => k_is); (case tyC_9 => k_is); (case sup_9 => ks_is); (case opq_9 => k_is); (case gS_9 => k_is); (case fn_9 => k_is); (case cell_9 => k_is); (case code_9 => k_is); (case hvs_9 => rfl); (case hfile_9 => decide +kernel); (case rc_9 => k_is); (case n1_9 => k_is); (case n2_9 => exact fun g hg => nomatch hg); (case ga_9 => k_is); (case gg_9 => k_is); (case ca_9 => k_is); (case gt_9 => k_is); (case tk_9 => k_is); (case mo_9 => k_is); (case hd_9 => k_is)
    (case a_10 => k_is); (case xL_10 => k_is); (case hbm_10 => decide +kernel); (case sa_10 => k_is); (case iC_10 => k_is); (case tI_10 => k_is); (case kC_10 => k_is); (case exC_10 => k_is); (case veC_10 => k_is); (case meC_10 => k_is); (case tyC_10 => k_is); (case sup_10 => ks_is); (case opq_10 => k_is); (case gS_10 => k_is); (case fn_10 => k_is); (case cell_10 => k_is); (case code_10 => k_is); (case hvs_10 => rfl); (case hfile_10 => decide +kernel); (case rc_10 => k_is); (case n1_10 => k_is); (case n2_10 => exact fun g hg => nomatch hg); (case ga_10 => k_is); (case gg_10 => k_is); (case ca_10 => k_is); (case gt_10 => k_is); (case tk_10 => k_is); (case mo_10 => k_is); (case hd_10 => k_is)
    (case a_11 => k_is); (case xL_11 => k_is); (case hbm_11 => decide +kernel); (case sa_11 => k_is); (case iC_11 => k_is); (case tI_11 => k_is); (case kC_11 => k_is); (case exC_11 => k_is); (case veC_11 => k_is); (case meC_11 => k_is); (case tyC_11 => k_is); (case sup_11 => ks_is); (case opq_11 => k_is); (case gS_11 => k_is); (case fn_11 => k_is); (case cell_11 => k_is); (case code_11 => k_is); (case hvs_11 => rfl); (case hfile_11 => decide +kernel); (case rc_11 => k_is); (case n1_11 => k_is); (case n2_11 => exact fun g hg => nomatch hg); (case ga_11 => k_is); (case gg_11 => k_is); (case ca_11 => k_is); (case gt_11 => k_is); (case tk_11 => k_is); (case mo_11 => k_is); (case hd_11 => k_is)
    (case a_12 => k_is); (case xL_12 => k_is); (case hbm_12 => decide +kernel); (case sa_12 => k_is); (case iC_12 => k_is); (case tI_12 => k_is); (case kC_12 => k_is); (case exC_12 => k_is); (case veC_12 => k_is); (case meC_12 => k_is); (case tyC_12 => k_is); (case sup_12 => ks_is); (case opq_12 => k_is); (case gS_12 => k_is); (case fn_12 => k_is); (case cell_12 => k_is); (case code_12 => k_is); (case hvs_12 => rfl); (case hfile_12 => decide +kernel); (case rc_12 => k_is); (case n1_12 => k_is); (case n2_12 => exact fun g hg => nomatch hg); (case ga_12 => k_is); (case gg_12 => k_is); (case ca_12 => k_is); (case gt_12 => k_is); (case tk_12 => k_is); (case mo_12 => k_is); (case hd_12 => k_is)
    (case a_13 => k_is); (case xL_13 => k_is); (case hbm_13 => decide +kernel); (case sa_13 => k_is); (case iC_13 => k_is); (case tI_13 => k_is); (case kC_13 => k_is); (case exC_13 => k_is); (case veC_13 => k_is); (case meC_13 => k_is); (case tyC_13 => k_is); (case sup_13 => ks_is); (case opq_13 => k_is); (case gS_13 => k_is); (case fn_13 => k_is); (case cell_13 => k_is); (case code_13 => k_is); (case hvs_13 => rfl); (case hfile_13 => decide +kernel); (case rc_13 => k_is); (case n1_13 => k_is); (case n2_13 => exact fun g hg => nomatch hg); (case ga_13 => k_is); (case gg_13 => k_is); (case ca_13 => k_is); (case gt_13 => k_is); (case tk_13 => k_is); (case mo_13 => k_is); (case hd_13 => k_is)
    (case a_14 => k_is); (case xL_14 => k_is); (case hbm_14 => decide +kernel); (case sa_14 => k_is); (case iC_14 => k_is); (case tI_14 => k_is); (case kC_14 => k_is); (case exC_14 => k_is); (case veC_14 => k_is); (case meC_14 => k_is); (case tyC_14 => k_is); (case sup_14 => ks_is); (case opq_14 => k_is); (case gS_14 => k_is); (case fn_14 => k_is); (case cell_14 => k_is); (case code_14 => k_is); (case hvs_14 => rfl); (case hfile_14 => decide +kernel); (case rc_14 => k_is); (case n1_14 => k_is); (case n2_14 => exact fun g hg => nomatch hg); (case ga_14 => k_is); (case gg_14 => k_is); (case ca_14 => k_is); (case gt_14 => k_is); (case tk_14 => k_is); (case mo_14 => k_is); (case hd_14 => k_is)
    (case a_15 => k_is); (case xL_15 => k_is); (case hbm_15 => decide +kernel); (case sa_15 => k_is); (case iC_15 => k_is); (case tI_15 => k_is); (case kC_15 => k_is); (case exC_15 => k_is); (case veC_15 => k_is); (case meC_15 => k_is); (case tyC_15 => k_is); (case sup_15 => ks_is); (case opq_15 => k_is); (case gS_15 => k_is); (case fn_15 => k_is); (case cell_15 => k_is); (case code_15 => k_is); (case hvs_15 => rfl); (case hfile_15 => decide +kernel); (case rc_15 => k_is); (case n1_15 => k_is); (case n2_15 => exact fun g hg => nomatch hg); (case ga_15 => k_is); (case gg_15 => k_is); (case ca_15 => k_is); (case gt_15 => k_is); (case tk_15 => k_is); (case mo_15 => k_is); (case hd_15 => k_is)
    (case a_16 => k_is); (case xL_16 => k_is); (case hbm_16 => decide +kernel); (case sa_16 => k_is); (case iC_16 => k_is); (case tI_16 => k_is); (case kC_16 => k_is); (case exC_16 => k_is); (case veC_16 => k_is); (case meC_16 => k_is); (case tyC_16 => k_is); (case sup_16 => ks_is); (case opq_16 => k_is); (case gS_16 => k_is); (case fn_16 => k_is); (case cell_16 => k_is); (case code_16 => k_is); (case hvs_16 => rfl); (case hfile_16 => decide +kernel); (case rc_16 => k_is); (case n1_16 => k_is); (case n2_16 => exact fun g hg => nomatch hg); (case ga_16 => k_is); (case gg_16 => k_is); (case ca_16 => k_is); (case gt_16 => k_is); (case tk_16 => k_is); (case mo_16 => k_is); (case hd_16 => k_is)
    (case a_17 => k_is); (case xL_17 => k_is); (case hbm_17 => decide +kernel); (case sa_17 => k_is); (case iC_17 => k_is); (case tI_17 => k_is); (case kC_17 => k_is); (case exC_17 => k_is); (case veC_17 => k_is); (case meC_17 => k_is); (case tyC_17 => k_is); (case sup_17 => ks_is); (case opq_17 => k_is); (case gS_17 => k_is); (case fn_17 => k_is); (case cell_17 => k_is); (case code_17 => k_is); (case hvs_17 => rfl); (case hfile_17 => decide +kernel); (case rc_17 => k_is); (case n1_17 => k_is); (case n2_17 => exact fun g hg => nomatch hg); (case ga_17 => k_is); (case gg_17 => k_is); (case ca_17 => k_is); (case gt_17 => k_is); (case tk_17 => k_is); (case mo_17 => k_is); (case hd_17 => k_is)
    (case aB => k_is)
    (case aV => k_is)
    (case aI => k_is)
    (case z1 => k_is)
    (case z2 => k_is)
    (case z3 => k_is)
    (case z4 => k_is)
    (case a21 => k_is); (case l21 => k_is); (case c21 => k_is); (case k21 => k_is)
    (case a22 => k_is); (case l22 => k_is); (case c22 => k_is); (case k22 => k_is)
    (case a23 => k_is); (case l23 => k_is); (case c23 => k_is); (case k23 => k_is)
    (case a24 => k_is); (case l24 => k_is); (case c24 => k_is); (case k24 => k_is)
    (case a25 => k_is); (case l25 => k_is); (case c25 => k_is); (case k25 => k_is)
    (case a26 => k_is); (case l26 => k_is); (case c26 => k_is); (case k26 => k_is)
    (case a27 => k_is); (case l27 => k_is); (case c27 => k_is); (case k27 => k_is)
    (case a28 => k_is); (case l28 => k_is); (case c28 => k_is); (case k28 => k_is)
    (case a29 => k_is); (case l29 => k_is); (case c29 => k_is); (case k29 => k_is)
    (case a30 => k_is); (case l30 => k_is); (case c30 => k_is); (case k30 => k_is)
    (case a31 => k_is); (case l31 => k_is); (case c31 => k_is); (case k31 => k_is)
    (case a32 => k_is); (case l32 => k_is); (case c32 => k_is); (case k32 => k_is)
    (case a33 => k_is); (case l33 => k_is); (case c33 => k_is); (case k33 => k_is)
    (case a34 => k_is); (case l34 => k_is); (case c34 => k_is); (case k34 => k_is)
    (case mE => kernel_rfl)
    (case mK => kernel_rfl)
    (case mB => kernel_rfl)
    (case mV => kernel_rfl)
