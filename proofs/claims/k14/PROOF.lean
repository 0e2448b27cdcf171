import PyProof.Rows.All
import Wide.All
import OpenK.AllK
import Wide.FinOn
import PyProof.EqAt
import PyProof.EqKinds
import PyProof.TupleCall
import KE.KExcSuper
import KE.KExcIs
import HandS.ForMost
import HandS.Exc
import HandS.ExcOwn
import HandS.WordsExc
import HandS.HotCalls
import HandS.Wide
import HandS.ExcInit
import HandS.TryMany
import HandS.ExcField
import HandS.Star
import HandS.IsInst
import HandS.CallLocal
import HandS.Iter
import HandS.Deep
import HandS.Walk
import HandS.ForDict
import HandS.Defaults
import HandS.More
import HandS.DictComp
import HandS.CallSlots
import PyProof.Rows.StrAscii
import KE.IntTextLaws
import HandS.Strs
import PyProof.StrLawsTight
import PyProof.StrLawsChain
import HandS.Style
import HandS.Conv
import KE.RegKSuper
import HandS.HeadHook3
import PySem.Challenge.RW_tagblocks_k14_whole_block_lines_read
set_option Elab.async false
set_option linter.all false
set_option maxRecDepth 100000
set_option maxHeartbeats 2000000
/-! Part A: an own error over a common error over ValueError; its __init__ says super().__init__('..') and stores its arguments. -/
namespace ErrA
open PySem PySem.W PySem.Calls PyProof.Rows PySem.HandSPX
/-- what the written part tells of the class at C; its __init__ at fI closes over the cell cc, its code object stands at cda -/
structure ErrTxt (P : Program) (K : Frag) (C fI cc cda : Addr) (qual : Str) (st : Stmt) : Prop where
  cls : ∃ nm q N bs bm sn sub ab col dd k0 k1 k2 k3 k5, K.lookup C = some (excClassObj nm q C N bs bm true sn sub ab col dd k0 k1 k2 k3 k5 "ValueError.__new__") ∧ refsVE bm = true
  sa : findIn K (.ref C) "__setattr__" = some (some (.builtin "object.__setattr__"))
  iC : findIn K (.ref C) "__init__" = some (some (.ref fI))
  tI : typeIn K (.ref fI) = some (.type "function")
  kC : keepIn K (.ref C) = true
  exC : subIn K (.ref C) (.type "BaseException") = some true
  veC : subIn K (.ref C) (.type "ValueError") = some true
  meC : mroIn K C (.ref C) = some true
  tyC : typeIn K (.ref C) = some (.type "type")
  sup : ks_superIn K C C "__init__" = some (some (.builtin "ValueError.__init__"))
  opq : nsIn K cStatics "thirdparty.any" = some none
  gS : nsIn K mainGlobals "super" = some none
  cell : ∃ cl cld csl, K.lookup cc = some ⟨cl, cld, .cell (some (.ref C)), csl⟩
  code : ∃ (ccl : Value) (cdd : Option Addr) (vs : Array Value) (ccs : Array (Option Value)) (file : Str) (tf : Tok), K.lookup cda = some ⟨ccl, cdd, .fields vs, ccs⟩ ∧ vs[2]? = some (.str file tf) ∧ ((P.main.file : Str) == file) = true
  rec_ : codeIn K (.ref cda) qual = true
  fn : ∃ (oc : Value) (od : Option Addr) (kV doc pm : Value) (an : Option Addr) (ct : Value) (osl : Array (Option Value)),
    K.lookup fI = some ⟨oc, od, .func (ksFn "__init__" qual (L2.defArgs st) (L2.defBody st) (L2.defScope st) .none kV doc pm an (.ref cda) ct cc), osl⟩
/-- what the module's names are over the base -/
structure Gnd (K : Frag) (mg : Str → Option Value) (base : Heap) : Prop where
  kin : K.In base
  glob : base.Ns mainGlobals mg
  blt : ∃ mb, base.Ns builtinsNs mb ∧ ∀ x : Str, x ≠ "__name__" → mb x = bootBuiltins x
  lim : base.NoLimit

section
variable {P : Program} {w : World} {K : Frag} {mg : Str → Option Value} {base : Heap} {C fI cc cda : Addr} {qual : Str} {st : Stmt} {A : Around} {E : Value → Shared → Prop}
theorem err_cls (T : ErrTxt P K C fI cc cda qual st) : ∃ cd, clsIn K C = some cd ∧ cd.hasDict = true ∧ refsVE cd.mro = true := by
  obtain ⟨nm, q, N, bs, bm, sn, sub, ab, col, dd, k0, k1, k2, k3, k5, hC, hbm⟩ := T.cls
  refine ⟨_, by unfold clsIn; rw [hC] <;> rfl, rfl, ?_⟩
  exact hbm
/-- the built-in __init__, bound to the exception at x, called -/
theorem bound_init (T : ErrTxt P K C fI cc cda qual st) {x t0 u : Addr} {rest : List Value} {h : Heap} {g : Array GenState} {d : Drawn} {t : Nat} {os : OsState} {Q : Value → Shared → Prop} (X : K.In h)
    (hx : h.get? x = some (excO C t0)) (hu : h.get? u = some (kxs_mw "ValueError.__init__" x)) (hl : rest.length ≤ sizeLine)
    (hq : ∀ h' t1, (∀ b o, b ≠ x → h.get? b = some o → h'.get? b = some o) → h'.get? x = some (excO C t1) → Q .none ⟨h', g, d, t, os⟩) :
    wpAny (model P w) A (call (.ref u) rest) Q E ⟨h, g, d, t, os⟩ := by
  obtain ⟨nm, q, N, bs, bm, sn, sub, ab, col, dd, k0, k1, k2, k3, k5, hC, hbm⟩ := T.cls
  have hC' := X _ _ hC
  refine wpAny_call (codeAny_of_tree ?_)
  show wpAny _ A.in1 (callAny (.ref u) ⟨rest, []⟩) _ _ _
  unfold callAny
  refine wpAny_bind (wpAny_load hu ?_)
  refine KFB.if_so rfl ?_
  refine wpAny_bind (check_bound_init PySem.F.excBase_ValueError.toExcCallFacts hC' hx rfl ?_)
  refine wpAny_bind (wpAny_pure (wpAny_pure ⟨plainId_quiet PySem.F.excBase_ValueError.init.plain _, codeAny_builtin PySem.F.excBase_ValueError.initEntry ?_⟩))
  exact exc_init_tree (cls := .ref C) (dv := none) (c2 := .none) (c3 := .none) (b4 := .bool false) hx hl fun h' k e _ => hq h' _ k e
end
end ErrA
namespace ErrA
open PySem PySem.W PySem.Calls PyProof.Rows PySem.HandSPX
section
variable {P : Program} {w : World} {K : Frag} {mg : Str → Option Value} {base : Heap} {C fI cc cda : Addr} {qual : Str} {st : Stmt} {A : Around} {E : Value → Shared → Prop}
/-- the frame of such an __init__ -/
abbrev eV (qual : Str) (st : Stmt) (L fI cda cc : Addr) : Env := ksEnv qual (L2.defScope st) L fI (.ref cda) cc
/-- what is asked of the text of such an __init__ -/
structure ErrScope (P : Program) (st : Stmt) (fl : List Str) (p0 p1 p2 p3 p4 : Pos) (msg : Str) (kk : Nat) : Prop where
  mc : ∀ (qual : Str) (L fI cda cc : Addr), ∃ pl : Sem Bool, eval (.Call (.Attribute (.Call (.Name "super" p0) [] [] p1) "__init__" p2) [.Constant (.str msg) kk p3] [] p4) (eV qual st L fI cda cc) = (do
      let ov ← attributeBase (.Call (.Name "super" p0) [] [] p1) "__init__" (eV qual st L fI cda cc) (eval (.Call (.Name "super" p0) [] [] p1) (eV qual st L fI cda cc))
      standAt p2.atName
      let (f, first) ← holding [ov] (getMethod ov "__init__" pl)
      callWith p4 f first (backTo p4 (starEach [.Constant (.str msg) kk p3] (eV qual st L fI cda cc))) [])
  kS : (L2.defScope st).names.lookup ("super" : Str) = some .globalImplicit
  kC : (L2.defScope st).names.lookup ("__class__" : Str) = some .free
  kL : ∀ f ∈ ("self" : Str) :: fl, (L2.defScope st).names.lookup f = some .local
  kF : (L2.defScope st).kind = .function
  kG : (L2.defScope st).isGenerator = false
  kO : (L2.defScope st).isCoroutine = false
  kN : ∀ y ∈ (L2.defScope st).names, y.2 ≠ .cell
  top : (P.main.scope.names.lookup ("super" : Str)).isSome = false
  par : ∃ ar : Arg, ((L2.defArgs st).posonlyargs ++ (L2.defArgs st).args).head? = some ar ∧ ar.arg = "self"
  dbg : ∀ f ∈ ("self" : Str) :: fl, (f == ("__debug__" : Str)) = false
/-- super().__init__('..') -/
theorem super_line {L x t0 : Addr} {m : Str → Option Value} {s : Shared} {fl : List Str} {p0 p1 p2 p3 p4 p5 : Pos} {msg : Str} {kk : Nat} {body : List Stmt} {Q : Flow → Shared → Prop} (T : ErrTxt P K C fI cc cda qual st) (S : ErrScope P st fl p0 p1 p2 p3 p4 msg kk) (G : Gnd K mg base)
    (kb : ∀ b o, base.get? b = some o → s.heap.get? b = some o) (hns : s.heap.Ns L m) (hm : m "self" = some (.ref x)) (hx : s.heap.get? x = some (excO C t0))
    (hq : ∀ h' tk t1, (∀ b o, b ≠ x → s.heap.get? b = some o → h'.get? b = some o) → h'.get? x = some (excO C t1) → Q .next { s with heap := h', toks := tk }) :
    _root_.PySem.wpAt (model P w) A (.func body (eV qual st L fI cda cc)) (exec (.Expr (.Call (.Attribute (.Call (.Name "super" p0) [] [] p1) "__init__" p2) [.Constant (.str msg) kk p3] [] p4) p5) (eV qual st L fI cda cc)) Q E s := by
  have X : K.In s.heap := G.kin.keeps kb
  have gS := mg_none_of G.kin G.glob T.gS
  obtain ⟨mb, hmb, hbt⟩ := G.blt
  obtain ⟨cd, hcd, hdct, hmro⟩ := err_cls T
  obtain ⟨oD, hD1, hD2⟩ : ∃ oD, K.lookup C = some oD ∧ oD.data = .cls cd := by
    obtain ⟨nm, q, N, bs, bm, sn, sub, ab, col, dd, k0, k1, k2, k3, k5, hC, hbm⟩ := T.cls
    unfold clsIn at hcd
    rw [hC] at hcd
    exact ⟨_, hC, by cases hcd; rfl⟩
  obtain ⟨cl, cld, csl, hcell⟩ := T.cell
  obtain ⟨ccl, cdd, vs, ccs, file, tf, hcode, hvs, hfile⟩ := T.code
  obtain ⟨oc, od, kV, doc, pm, an, ct, osl, hfn⟩ := T.fn
  obtain ⟨ar, har, harg⟩ := S.par
  obtain ⟨hh, g, d, t, os⟩ := s
  have hsup := T.sup
  unfold ks_superIn at hsup
  rw [hcd, Option.bind_some] at hsup
  have xC : x ≠ C := fun z => by
    rw [z, X _ _ hD1] at hx
    have z2 := congrArg Obj.data (Option.some.inj hx)
    rw [hD2] at z2
    cases z2
  have hint : interactive (eV qual st L fI cda cc) = false := by
    unfold interactive
    rw [show (eV qual st L fI cda cc).scope.kind = .function from S.kF]
    rfl
  obtain ⟨pl, hmc⟩ := S.mc qual L fI cda cc
  refine ks_wpAt_Expr_any (ks_wpAt_MethodCall (pl := pl) (ks_wpAt_super_base (env := eV qual st L fI cda cc) S.kS S.kC (by decide) rfl (X _ _ hfn) rfl har rfl (X _ _ hcode) rfl hvs hfile S.top ?_) hmc) hint
  refine ks_loadName_global S.kF S.kS (loadGlobal_builtin (env := eV qual st L fI cda cc) (G.glob.keeps kb) gS (hmb.keeps kb) ((hbt _ (by decide +kernel)).trans (by first | boot_by_name | rfl | kernel_rfl)) ⟨rfl, ?_⟩)
  refine wpAny_loadName_free S.kF S.kC rfl ⟨_, X _ _ hcell, rfl⟩ ?_
  rw [harg]
  refine wpAny_loadName_local S.kF (S.kL _ (List.mem_cons_self ..)) hns hm ?_
  refine ks_wpAny_isType_cls (X _ _ hD1) hD2 ⟨rfl, ?_⟩
  refine ks_wpAny_call_super (X _ _ hD1) hD2 hx rfl (fun c z => nomatch z) (looks_mroIn X T.meC) (fun h1 e1 k1 => ?_)
  have X1 : K.In h1 := X.keeps k1
  have hx1 := k1 _ _ hx
  have hI : Looks (model P w) h1 (isInstance (.ref x) (.type "ValueError")) true := (show Looks (model P w) h1 (typeOf (.ref x)) (.ref C) from fun A Q E s k q => wpAny_typeOf_ref (k _ _ hx1) q).andThen (looks_subIn X1 T.veC)
  have hM : Looks (model P w) h1 (mroOf (.ref C)) cd.mro := (looks_clsIn X1 hcd).andThen .now
  refine kxs_getMethod kxs_ValueError e1 (looks_opaque X1 T.opq) hM rfl X1 hsup hI xC (by decide) ?_
  have e2 : (h1.push (kxs_mw "ValueError.__init__" x)).get? h1.objs.size = some (kxs_mw "ValueError.__init__" x) := Heap.get?_push_size _ rfl
  have k2 : ∀ b o, h1.get? b = some o → (h1.push (kxs_mw "ValueError.__init__" x)).get? b = some o := fun b o e => Heap.get?_push_of_some _ e
  refine kxs_callWith (i := "ValueError.__init__") (x := x) rfl (evalArgs_plain (spliced_cons (Constant_str (pos := p3) (k := kk) (spliced_nil ⟨e2, ?_⟩))))
  refine bound_init T (X1.keeps k2) (k2 _ _ hx1) e2 (by show 1 ≤ sizeLine; rw [sizeLine_eq]; decide) (fun h' t1 k3 e3 => ?_)
  exact hq h' _ t1 (fun b o hb e => k3 b o hb (k2 _ _ (k1 _ _ e))) e3
end
end ErrA

namespace ErrA
open PySem PySem.W PySem.Calls PyProof.Rows PySem.HandSPX
/-- the names of an exception's own dict, the newest first -/
def lk (fs : List (Str × Value)) : Str → Option Value := fun y => fs.lookup y
theorem lk_more (f : Str) (v : Value) (fs : List (Str × Value)) : lk ((f, v) :: fs) = fun y => if y = f then some v else lk fs y := by
  funext y
  unfold lk
  by_cases h : y = f
  · subst h
    rw [if_pos rfl]
    simp [List.lookup]
  · rw [if_neg h]
    have e : (y == f) = false := by simpa using h
    simp [List.lookup, e]
theorem lk_in : ∀ fs : List (Str × Value), Within (lk fs) (fs.map (·.1))
  | [] => fun y h => absurd rfl h
  | (f, v) :: r => fun y h => by
    have h : lk ((f, v) :: r) y ≠ none := h
    rw [lk_more] at h
    have h : (if y = f then some v else lk r y) ≠ none := h
    by_cases e : y = f
    · rw [e]
      exact List.mem_cons_self ..
    · rw [if_neg e] at h
      exact List.mem_cons_of_mem _ (lk_in r y h)
/-- self.f = f, once for each name -/
inductive Sets : List Stmt → List Str → Prop
  | nil : Sets [] []
  | cons {f : Str} {q1 q2 q3 q4 : Pos} {r : List Stmt} {fl : List Str} (h : Sets r fl) : Sets (.Assign [.Attribute (.Name "self" q1) f q2] (.Name f q3) q4 :: r) (f :: fl)
section
variable {P : Program} {w : World} {K : Frag} {mg : Str → Option Value} {base : Heap} {C fI cc cda : Addr} {qual : Str} {st : Stmt} {A : Around} {E : Value → Shared → Prop}
theorem ldE {L : Addr} {m : Str → Option Value} {f : Str} {pos : Pos} {v : Value} {s : Shared} {M : Model} {Q : Value → Shared → Prop} (hk : (L2.defScope st).kind = .function) (hl : (L2.defScope st).names.lookup f = some .local) (hd : (f == ("__debug__" : Str)) = false)
    (hns : s.heap.Ns L m) (hm : m f = some v) (h : Q v s) : wpAny M A (eval (.Name f pos) (eV qual st L fI cda cc)) Q E s := wpAny_Name (wpAny_loadName_local hk hl hns hm h) hd
/-- further fields: the exception has its dict -/
theorem sets_old (T : ErrTxt P K C fI cc cda qual st) {L x t0 dx : Addr} {m : Str → Option Value} (val : Str → Value) (hk : (L2.defScope st).kind = .function) (hself : (L2.defScope st).names.lookup ("self" : Str) = some .local) (hm0 : m "self" = some (.ref x)) (xL : L ≠ dx) :
    ∀ {sts : List Stmt} {fl : List Str}, Sets sts fl → ∀ (fs : List (Str × Value)) (s : Shared) (Q : Flow → Shared → Prop), fs.length + fl.length ≤ 900 → (∀ f ∈ fl, (L2.defScope st).names.lookup f = some .local ∧ (f == ("__debug__" : Str)) = false ∧ m f = some (val f) ∧ findIn K (.ref C) f = some none) →
      K.In s.heap → K.lookup dx = none → s.heap.Ns L m → s.heap.get? x = some { cls := .ref C, dict := some dx, data := .fields #[.ref t0, .none, .none, .none, .bool false, .none] } → x ≠ dx → s.heap.Ns1 dx (lk fs) →
      (∀ h' tk, (∀ b o, b ≠ dx → s.heap.get? b = some o → h'.get? b = some o) → h'.get? x = some { cls := .ref C, dict := some dx, data := .fields #[.ref t0, .none, .none, .none, .bool false, .none] } → h'.Ns1 dx (lk ((fl.map fun f => (f, val f)).reverse ++ fs)) → Q .next { s with heap := h', toks := tk }) →
      wpAny (model P w) A (execs sts (eV qual st L fI cda cc)) Q E s := by
  intro sts fl hs
  induction hs with
  | nil =>
    intro fs s Q _ _ X _ hns hx hxd hd hq
    exact wpAny_execs_nil (hq s.heap s.toks (fun _ _ _ e => e) hx hd)
  | @cons f q1 q2 q3 q4 r fl hs ih =>
    intro fs s Q hl hf X hKd hns hx hxd hd hq
    obtain ⟨cd, hcd, hdct, hmro⟩ := err_cls T
    obtain ⟨f1, f2, f3, f4⟩ := hf f (List.mem_cons_self ..)
    refine wpAny_execs_cons (plainObj_wpAny_Assign_Attribute (ldE hk f1 f2 hns f3 (ldE hk hself (by decide) hns hm0 ?_)) (by rfl))
    have hd' := hd
    obtain ⟨oD, es, ep, hoD, _⟩ := id hd'
    obtain ⟨hp, g, d, t, os⟩ := s
    refine set_plain X (ox := { cls := .ref C, dict := some dx, data := .fields #[.ref t0, .none, .none, .none, .bool false, .none] }) (od := some oD) ⟨hx, rfl, rfl, hoD⟩ T.sa ?_
    refine PySem.OEX.osa_old X hx hd (lk_in fs) (by rw [List.length_map]; have : fs.length + (fl.length + 1) ≤ 900 := hl; omega) hcd hmro hdct f4 (fun h' tk' k hn => ?_)
    have hn' : h'.Ns1 dx (lk ((f, val f) :: fs)) := by rw [lk_more]; exact hn
    have kK : K.In h' := fun b o e => k b o (fun z => by rw [z, hKd] at e; cases e) (X b o e)
    refine ih ((f, val f) :: fs) _ Q (by have : fs.length + (fl.length + 1) ≤ 900 := hl; show fs.length + 1 + fl.length ≤ 900; omega) (fun g' hg' => hf g' (List.mem_cons_of_mem _ hg')) kK hKd ?_ (k _ _ hxd hx) hxd hn' (fun h2 tk2 k2 e2 n2 => ?_)
    · obtain ⟨o, es2, ep2, ho, r2⟩ := hns
      exact ⟨o, es2, ep2, k _ o xL ho, r2⟩
    · refine hq h2 tk2 (fun b o hb e => k2 b o hb (k b o hb e)) e2 ?_
      rw [List.map_cons, List.reverse_cons, List.append_assoc]
      exact n2
end
end ErrA

namespace ErrA
open PySem PySem.W PySem.Calls PyProof.Rows PySem.HandSPX
theorem look_mem {β : Type} {f : Str} {v : β} : ∀ {l : List (Str × β)}, (l.map (·.1)).Nodup → (f, v) ∈ l → l.lookup f = some v
  | [], _, h => nomatch h
  | (g, u) :: r, hn, h => by
    rw [List.map_cons, List.nodup_cons] at hn
    rcases List.mem_cons.mp h with e | e
    · cases e
      simp [List.lookup]
    · have ne : f ≠ g := fun z => hn.1 (by rw [← z]; exact List.mem_map.mpr ⟨_, e, rfl⟩)
      have e2 : (f == g) = false := by simpa using ne
      simp only [List.lookup, e2]
      exact look_mem hn.2 e
theorem zip_fst {α β : Type} : ∀ {xs : List α} {ys : List β}, xs.length = ys.length → (xs.zip ys).map (·.1) = xs
  | [], _, _ => by simp
  | _ :: _, [], h => by simp at h
  | x :: xs, y :: ys, h => by
    rw [List.zip_cons_cons, List.map_cons, zip_fst (by simpa using h)]
theorem zip_look {names : List Str} {us : List Value} (hn : names.Nodup) (hl : names.length = us.length) {f : Str} {v : Value} (h : (f, v) ∈ names.zip us) : (names.zip us).reverse.lookup f = some v := by
  refine look_mem ?_ (List.mem_reverse.mpr h)
  rw [List.map_reverse, zip_fst hl]
  exact List.pairwise_reverse.mpr (List.Pairwise.imp (fun h => Ne.symm h) hn)
/-- the parameter's value -/
def val (names : List Str) (us : List Value) (f : Str) : Value := ((names.zip us).reverse.lookup f).getD .none
theorem val_look {names : List Str} {us : List Value} (hl : names.length = us.length) {f : Str} (h : f ∈ names) (hn : names.Nodup) : (names.zip us).reverse.lookup f = some (val names us f) := by
  obtain ⟨p, hp, e⟩ : ∃ p ∈ names.zip us, p.1 = f := by
    have h2 : f ∈ (names.zip us).map (·.1) := by rw [zip_fst hl]; exact h
    obtain ⟨p, hp, e⟩ := List.mem_map.mp h2
    exact ⟨p, hp, e⟩
  obtain ⟨g, v⟩ := p
  cases e
  unfold val
  rw [zip_look hn hl hp]
  rfl
/-- the fields that are left, the newest first -/
def flds (names : List Str) (us : List Value) (fl : List Str) : List (Str × Value) := (fl.map fun f => (f, val names us f)).reverse
section
variable {P : Program} {w : World} {K : Frag} {mg : Str → Option Value} {base : Heap} {C fI cc cda : Addr} {qual : Str} {st : Stmt} {A : Around} {E : Value → Shared → Prop} {R : Result → Shared → Prop}
/-- the text of such an __init__ -/
structure ErrBody (P : Program) (st : Stmt) (f : Str) (fl : List Str) : Prop where
  ex : ∃ (p0 p1 p2 p3 p4 p5 q1 q2 q3 q4 : Pos) (msg : Str) (kk : Nat) (r : List Stmt), ErrScope P st (f :: fl) p0 p1 p2 p3 p4 msg kk ∧ Sets r fl ∧
    L2.defBody st = .Expr (.Call (.Attribute (.Call (.Name "super" p0) [] [] p1) "__init__" p2) [.Constant (.str msg) kk p3] [] p4) p5 :: .Assign [.Attribute (.Name "self" q1) f q2] (.Name f q3) q4 :: r
  nd : (("self" : Str) :: f :: fl).Nodup
  bind : ∀ (qual : Str) (kV doc pm : Value) (an : Option Addr) (ct : Value) (cda cc : Addr) (us : List Value), us.length = fl.length + 2 →
    bindArgs (ksFn "__init__" qual (L2.defArgs st) (L2.defBody st) (L2.defScope st) .none kV doc pm an (.ref cda) ct cc) ⟨us, []⟩ = pure ((("self" : Str) :: f :: fl).zip us)
  few : fl.length ≤ 100
/-- what such an __init__ leaves of a fresh exception at x -/
structure ErrEnd (h h' : Heap) (x C dx : Addr) (fs : List (Str × Value)) : Prop where
  keep : ∀ b o, b ≠ x → h.get? b = some o → h'.get? b = some o
  obj : ∃ t0 : Addr, h'.get? x = some { cls := .ref C, dict := some dx, data := .fields #[.ref t0, .none, .none, .none, .bool false, .none] }
  dbig : h.objs.size ≤ dx
  dne : dx ≠ x
  ns : h'.Ns1 dx (lk fs)
theorem err_init {f : Str} {fl : List Str} (T : ErrTxt P K C fI cc cda qual st) (B : ErrBody P st f fl) (G : Gnd K mg base) {x t0 : Addr} {vs : List Value} {s : Shared} (noF : ∀ g ∈ f :: fl, findIn K (.ref C) g = some none)
    (kb : ∀ b o, base.get? b = some o → s.heap.get? b = some o) (hx : s.heap.get? x = some (excO C t0)) (hnx : K.lookup x = none) (hroom : A.depth < recursionLimit) (hl : vs.length = fl.length + 1)
    (hq : ∀ h' tk dx, ErrEnd s.heap h' x C dx (flds (("self" : Str) :: f :: fl) (.ref x :: vs) (f :: fl)) → R (.ok (.ret .none)) { s with heap := h', toks := tk }) :
    codeAny (model P w) A (.call (.ref fI) ⟨.ref x :: vs, []⟩) R s := by
  obtain ⟨p0, p1, p2, p3, p4, p5, q1, q2, q3, q4, msg, kk, r, S, hs, hbody⟩ := B.ex
  obtain ⟨oc, od, kV, doc, pm, an, ct, osl, hfn⟩ := id T.fn
  obtain ⟨cd, hcd, hdct, hmro⟩ := err_cls T
  have X : K.In s.heap := G.kin.keeps kb
  have hus : (("self" : Str) :: f :: fl).length = (Value.ref x :: vs).length := by simp [hl]
  have look : ∀ g ∈ ("self" : Str) :: f :: fl, ((("self" : Str) :: f :: fl).zip (Value.ref x :: vs)).reverse.lookup g = some (val (("self" : Str) :: f :: fl) (.ref x :: vs) g) := fun g hg => val_look hus hg B.nd
  have hself : ((("self" : Str) :: f :: fl).zip (Value.ref x :: vs)).reverse.lookup ("self" : Str) = some (.ref x) := zip_look B.nd hus (by rw [List.zip_cons_cons]; exact List.mem_cons_self ..)
  refine ks_codeAny_call_defAt (fd := ksFn "__init__" qual (L2.defArgs st) (L2.defBody st) (L2.defScope st) .none kV doc pm an (.ref cda) ct cc) (body := L2.defBody st) (binds := (("self" : Str) :: f :: fl).zip (Value.ref x :: vs)) hroom (X _ _ hfn) rfl (G.lim.keeps kb) (codeRec_of X T.rec_) rfl
    (BindsTo.of_eq (B.bind _ _ _ _ _ _ _ _ _ (by simp [hl]))) S.kN (fun y hy => ?_) (fun h1 hns k1 => ?_) S.kO S.kG S.kF
  · obtain ⟨n, v⟩ := y
    exact S.kL n (List.of_mem_zip hy).1
  have hxL : s.heap.objs.size ≠ x := Nat.ne_of_gt (Heap.lt_size hx)
  show _root_.PySem.wpAt _ _ (.func (L2.defBody st) (eV qual st s.heap.objs.size fI cda cc)) (execs (L2.defBody st) (eV qual st s.heap.objs.size fI cda cc)) _ _ _
  rw [hbody]
  have L1 : s.heap.objs.size < h1.objs.size := hns.lt
  refine ks_wpAt_execs_cons (super_line T S G (fun b o e => k1 b o (kb b o e)) hns hself (k1 _ _ hx) (fun h2 tk2 t2 k2 e2 => wpAt_of_wpAny ?_))
  have keep2 : ∀ b o, b ≠ x → s.heap.get? b = some o → h2.get? b = some o := fun b o hb e => k2 b o hb (k1 b o e)
  have hns2 : h2.Ns s.heap.objs.size (fun y => ((("self" : Str) :: f :: fl).zip (Value.ref x :: vs)).reverse.lookup y) := by
    obtain ⟨o, es, ep, ho, hr⟩ := hns
    exact ⟨o, es, ep, k2 _ o hxL ho, hr⟩
  have X2 : K.In h2 := fun b o e => keep2 b o (fun z => by rw [z, hnx] at e; cases e) (X b o e)
  refine wpAny_execs_cons (plainObj_wpAny_Assign_Attribute (ldE S.kF (S.kL _ (by simp)) (S.dbg _ (by simp)) hns2 (look f (by simp)) (ldE S.kF (S.kL _ (by simp)) (by decide) hns2 hself ?_)) (by rfl))
  refine set_plain X2 (ox := excO C t2) (od := none) ⟨e2, rfl, rfl, trivial⟩ T.sa ?_
  refine exc_osa X2 e2 hcd hmro hdct (noF f (by simp)) (fun h3 tk3 dx k3 dn dne hx3 hn3 => ?_)
  have L2' : s.heap.objs.size < h2.objs.size := hns2.lt
  have dL : s.heap.objs.size ≠ dx := Nat.ne_of_lt (Nat.lt_of_lt_of_le L2' dn)
  have hK3 : K.In h3 := fun b o e => k3 b o (fun z => by rw [z, hnx] at e; cases e) (X2 b o e)
  have hKd : K.lookup dx = none := by
    cases e : K.lookup dx with
    | none => rfl
    | some o => exact absurd (Nat.lt_of_lt_of_le (Heap.lt_size (X2 _ _ e)) dn) (Nat.lt_irrefl _)
  have hns3 : h3.Ns s.heap.objs.size (fun y => ((("self" : Str) :: f :: fl).zip (Value.ref x :: vs)).reverse.lookup y) := by
    obtain ⟨o, es, ep, ho, hr⟩ := hns2
    exact ⟨o, es, ep, k3 _ o hxL ho, hr⟩
  have hn3' : h3.Ns1 dx (lk [(f, val (("self" : Str) :: f :: fl) (.ref x :: vs) f)]) := by rw [lk_more]; exact hn3
  refine sets_old T (val (("self" : Str) :: f :: fl) (.ref x :: vs)) S.kF (S.kL _ (by simp)) hself dL hs [(f, _)] _ _ (by have := B.few; show 1 + fl.length ≤ 900; omega)
    (fun g hg => ⟨S.kL g (by simp [hg]), S.dbg g (by simp [hg]), look g (by simp [hg]), noF g (by simp [hg])⟩) hK3 hKd hns3 hx3 (Ne.symm dne) hn3' (fun h4 tk4 k4 e4 n4 => ?_)
  refine hq h4 tk4 dx ⟨fun b o hb e => ?_, ⟨_, e4⟩, Nat.le_of_lt (Nat.lt_of_lt_of_le L2' dn), dne, ?_⟩
  · have bs : b < s.heap.objs.size := Heap.lt_size e
    exact k4 b o (fun z => absurd (Nat.lt_of_lt_of_le (Nat.lt_trans bs L2') dn) (by rw [z]; exact Nat.lt_irrefl _)) (k3 b o hb (keep2 b o hb e))
  · unfold flds
    rw [List.map_cons, List.reverse_cons]
    exact n4
end
end ErrA

namespace ErrA
open PySem PySem.W PySem.Calls PyProof.Rows PySem.HandSPX
theorem val_zip {names : List Str} {us : List Value} : ∀ {fl : List Str} {vs : List Value}, fl.length = vs.length → (∀ p ∈ fl.zip vs, val names us p.1 = p.2) → (fl.map fun f => (f, val names us f)) = fl.zip vs
  | [], _, _, _ => by simp
  | _ :: _, [], h, _ => by simp at h
  | f :: fl, v :: vs, h, hv => by
    rw [List.map_cons, List.zip_cons_cons, val_zip (by simpa using h) (fun p hp => hv p (by rw [List.zip_cons_cons]; exact List.mem_cons_of_mem _ hp)), hv (f, v) (by rw [List.zip_cons_cons]; exact List.mem_cons_self ..)]
theorem flds_zip {n0 : Str} {x : Value} {fl : List Str} {vs : List Value} (hn : (n0 :: fl).Nodup) (hl : fl.length = vs.length) : flds (n0 :: fl) (x :: vs) fl = (fl.zip vs).reverse := by
  unfold flds
  rw [val_zip hl fun p hp => ?_]
  obtain ⟨f, v⟩ := p
  unfold val
  rw [zip_look (v := v) hn (by simp [hl]) (by rw [List.zip_cons_cons]; exact List.mem_cons_of_mem _ hp)]
  rfl
section
variable {P : Program} {w : World} {K : Frag} {mg : Str → Option Value} {base : Heap} {C fI cc cda : Addr} {qual : Str} {st : Stmt} {A : Around} {E : Value → Shared → Prop} {R : Result → Shared → Prop}
/-- a made exception -/
structure ErrMade (h h' : Heap) (e C d : Addr) (fs : List (Str × Value)) : Prop where
  keep : ∀ b o, h.get? b = some o → h'.get? b = some o
  new : h.objs.size ≤ e
  obj : ∃ t0 : Addr, h'.get? e = some { cls := .ref C, dict := some d, data := .fields #[.ref t0, .none, .none, .none, .bool false, .none] }
  dbig : h.objs.size ≤ d
  dne : d ≠ e
  ns : h'.Ns1 d (lk fs)
theorem err_made {f : Str} {fl : List Str} (T : ErrTxt P K C fI cc cda qual st) (B : ErrBody P st f fl) (G : Gnd K mg base) {vs : List Value} {s : Shared} (noF : ∀ g ∈ f :: fl, findIn K (.ref C) g = some none)
    (kb : ∀ b o, base.get? b = some o → s.heap.get? b = some o) (hroom : A.depth + 1 < recursionLimit) (hl : vs.length = fl.length + 1)
    (hq : ∀ h' tk e d, ErrMade s.heap h' e C d (((f :: fl).zip vs).reverse) → R (.ok (.ret (.ref e))) { s with heap := h', toks := tk }) :
    codeAny (model P w) A (.call (.ref C) ⟨vs, []⟩) R s := by
  obtain ⟨nm, q, N, bs, bm, sn, sub, ab, col, dd, k0, k1, k2, k3, k5, hC, hbm⟩ := T.cls
  have X : K.In s.heap := G.kin.keeps kb
  obtain ⟨hp, g, dr, tk, os⟩ := s
  have k : ∀ b o, hp.get? b = some o → ((hp.push (kdv_tup vs)).push (excO C hp.objs.size)).get? b = some o := fun b o e => Heap.get?_push_of_some _ (Heap.get?_push_of_some _ e)
  have hget : ((hp.push (kdv_tup vs)).push (excO C hp.objs.size)).get? (hp.objs.size + 1) = some (excO C hp.objs.size) := by heap_get
  have hnx : K.lookup (hp.objs.size + 1) = none := by
    cases e : K.lookup (hp.objs.size + 1) with
    | none => rfl
    | some o =>
      have z : hp.get? (hp.objs.size + 1) = some o := X _ _ e
      exact absurd (Nat.lt_of_succ_lt (Heap.lt_size z)) (Nat.lt_irrefl _)
  have hsz : vs.length ≤ sizeLine := by
    rw [hl, sizeLine_eq]
    have := B.few
    omega
  refine call_own PySem.F.excBase_ValueError (fun Y => refsVE_contains Y bm hbm) (X _ _ hC) (looks_findIn X T.iC) (fun self => bind_fn X self T.tI) hsz ?_
  refine err_init (s := ⟨(hp.push (kdv_tup vs)).push (excO C hp.objs.size), g, dr, tk, os⟩) T B G noF (fun b o e => k b o (kb b o e)) hget hnx ?_ hl fun h' tk' dx ⟨k', hx, dn, dne, hns⟩ => ?_
  · show A.depth + 1 < recursionLimit
    exact hroom
  · rw [flds_zip B.nd (by simp [hl])] at hns
    have old : ∀ b o, hp.get? b = some o → h'.get? b = some o := fun b o e => k' b o (Nat.ne_of_lt (Nat.lt_succ_of_lt (Heap.lt_size e))) (k b o e)
    have z : hp.objs.size + 1 + 1 ≤ dx := by
      first
        | (simpa only [Heap.size_push] using dn)
        | exact dn
    exact ⟨rfl, hq h' tk' (hp.objs.size + 1) dx ⟨old, Nat.le_succ _, hx, Nat.le_trans (Nat.le_trans (Nat.le_succ _) (Nat.le_succ _)) z, dne, hns⟩⟩
end
end ErrA

namespace L2
open PySem PySem.Spec PyProof.Rows
theorem paired_snoc_k {α β : Type} {F : α → β → Prop} {a : α} {b : β} (r : F a b) : ∀ {xs : List α} {ys : List β}, Paired F xs ys → Paired F (xs ++ [a]) (ys ++ [b])
  | _, _, .nil => .cons r .nil
  | _, _, .cons q t => .cons q (paired_snoc_k r t)
theorem paired_rev_k {α β : Type} {F : α → β → Prop} : ∀ {xs : List α} {ys : List β}, Paired F xs ys → Paired F xs.reverse ys.reverse
  | _, _, .nil => .nil
  | _, _, .cons q t => by
    rw [List.reverse_cons, List.reverse_cons]
    exact paired_snoc_k q (paired_rev_k t)
theorem kv_zip : ∀ (fl : List Str) {vs : List V} {us : List Value}, Vals vs us → KV (fl.zip vs) (fl.zip us)
  | [], _, _, _ => by simp; exact .nil
  | _ :: _, _, _, .nil => by simp; exact .nil
  | f :: fl, _, _, .cons r t => by
    rw [List.zip_cons_cons, List.zip_cons_cons]
    exact .cons ⟨rfl, r⟩ (kv_zip fl t)
theorem kv_look (g : Str) : ∀ {l : List (Str × V)} {m : List (Str × Value)}, KV l m → RelO (l.lookup g) (ErrA.lk m g)
  | _, _, .nil => True.intro
  | (f, y) :: l, (f', u) :: m, .cons ⟨e, r⟩ t => by
    have e : f = f' := e
    subst e
    rw [ErrA.lk_more]
    have ih := kv_look g t
    by_cases h : g = f
    · subst h
      simp only [List.lookup, beq_self_eq_true]
      rw [if_pos True.intro]
      exact r
    · have e2 : (g == f) = false := by simpa using h
      simp only [List.lookup, e2]
      rw [if_neg h]
      exact ih
section
variable {X : Cx} {C fI cc cda : Addr} {qual : Str} {st : Stmt} {f : Str} {fl : List Str}
/-- C(e, ..): behind the arguments, for every new d: the error with its own dict at d -/
def tMkErr (C : Addr) (f : Str) (fl : List Str) (ta : TA) : St → Hp → XK → Prop := fun σ H Q => ta σ H fun vs H1 => vs.length = fl.length + 1 ∧ ∀ d, H1 d = none → Q (.ref C) (some d) (upd H1 d (.xd ((f :: fl).zip vs).reverse))
theorem pmk_err {a : Expr} {as : List Expr} {ta : TA} {n : Str} {p pos : Pos} {k : Nat} (T : ErrA.ErrTxt X.prog X.K C fI cc cda qual st) (B : ErrA.ErrBody X.prog st f fl) (noF : ∀ g ∈ f :: fl, PySem.W.findIn X.K (.ref C) g = some none) (hr : Room k X.A) (hm : X.mg n = some (.ref C)) (ha : PA X (a :: as) ta) (hg : Gl X n := by rfl)
    (hdb : (n == ("__debug__" : Str)) = false := by decide)
    (he : starEach (a :: as) X.env = (false, eval a X.env) :: starEach as X.env := by rfl) (hpl : (backTo pos (starEach as X.env)).any (·.1) = false := by rfl) :
    PMk X (.Call (.Name n p) (a :: as) [] pos) (tMkErr C f fl ta) := by
  intro pins s σ H Q I h
  refine wpAny_Call_Name_kw (ld_glob I hg hm ?_ hdb)
  refine PySem.W.callWith_K (h₀ := X.base) I.ok.mod.kin T.kC (thn (ha.run pos pins s σ H _ I h) fun us s1 hh => ?_) he hpl
  obtain ⟨vs, H1, I1, r1, hl, q1⟩ := hh
  refine ⟨I1.kIn, ?_⟩
  show wpAny _ _ (call (.ref C) us) _ _ _
  have hbk := I1.bk
  have hlu : us.length = fl.length + 1 := by rw [← Paired.length r1]; exact hl
  obtain ⟨hp, g, dr, tk, os⟩ := s1
  refine wpAny_call (ErrA.err_made T B ⟨I1.mod.kin, I1.mod.glob, I1.mod.blt, I1.mod.nolimit⟩ noF hbk (by have := hr.dp; omega) hlu fun h' tk' e d M => ?_)
  show MkP X pins σ Q (.ref e) ⟨h', g, dr, tk', os⟩
  obtain ⟨t0, hoe⟩ := M.obj
  have hns := M.ns
  obtain ⟨G', g1, g2⟩ := restrict h' fun b => decide (b ≠ e)
  have gk : ∀ b, b ≠ e → G'.get? b = h'.get? b := fun b hb => g1 b (decide_eq_true hb)
  have ge : G'.get? e = none := g2 e (by simp)
  have old : ∀ b o, hp.get? b = some o → G'.get? b = some o := fun b o q => (gk b (Nat.ne_of_lt (Nat.lt_of_lt_of_le (Heap.lt_size q) M.new))).trans (M.keep b o q)
  have ob : ObjOk X.prog X.w (upd H1 d (.xd ((f :: fl).zip vs).reverse)) G' d (.xd ((f :: fl).zip vs).reverse) :=
    ⟨_, hns.at (fun o q => (gk d M.dne).trans q), fun g => kv_look g (paired_rev_k (kv_zip (f :: fl) r1))⟩
  have J : Inv X pins σ (upd H1 d (.xd ((f :: fl).zip vs).reverse)) ⟨G', g, dr, tk', os⟩ := I1.laid (t' := tk') old M.dbig ob
  refine ⟨e, _, _, ⟨G', g, dr, tk', os⟩, _, .ref C, some d, rfl, J, fun b o q => ?_, ge, hoe, ⟨rfl, rfl⟩, rfl, rfl, ?_, rfl, I1.bare, raises_own T.exC T.tyC, q1 d (I1.hok.fresh M.dbig)⟩
  · by_cases hb : b = e
    · have q' : G'.get? b = some o := q
      rw [hb, ge] at q'; cases q'
    · exact (gk b hb).symm.trans q
  · rw [upd_ne (Ne.symm M.dne)]
    exact I1.hok.fresh M.new
/-- raise C(e, ..) -/
def tRaiseErr (C : Addr) (f : Str) (fl : List Str) (W : WX) (ta : TA) : TS := fun _ σ H => tMkErr C f fl ta σ H fun cls d H' => W cls d σ H'
theorem ps_raiseErr {a : Expr} {as : List Expr} {ta : TA} {W : WX} {n : Str} {p pos pos2 : Pos} {k : Nat} (hc : X.calm = true) (T : ErrA.ErrTxt X.prog X.K C fI cc cda qual st) (B : ErrA.ErrBody X.prog st f fl) (noF : ∀ g ∈ f :: fl, PySem.W.findIn X.K (.ref C) g = some none) (hr : Room k X.A) (hm : X.mg n = some (.ref C)) (tk : Takes X W) (ha : PA X (a :: as) ta) (hg : Gl X n := by rfl)
    (hdb : (n == ("__debug__" : Str)) = false := by decide)
    (he : starEach (a :: as) X.env = (false, eval a X.env) :: starEach as X.env := by rfl) (hpl : (backTo pos (starEach as X.env)).any (·.1) = false := by rfl) :
    PS X (.Raise (some (.Call (.Name n p) (a :: as) [] pos)) none pos2) (tRaiseErr C f fl W ta) := ps_raise hc tk (pmk_err T B noF hr hm ha hg hdb he hpl)
end
end L2

set_option Elab.async false
set_option linter.all false
set_option maxRecDepth 100000
set_option maxHeartbeats 2000000
/-! Part B: several clauses «except C as n» -/
namespace L2
open PySem PySem.Spec PyProof.Rows
/-- a clause's class and its suite's reading -/
abbrev Cl := Value × (Addr → Value → Option Addr → TS)
/-- the ends of a suite: the name in slot i is gone behind it -/
def goneD (i : Nat) (D : Ends) : Ends := { nx := fun τ G => D.nx (τ.set i none) G, rt := D.rt, bk := fun τ G => D.bk (τ.set i none) G, ct := fun τ G => D.ct (τ.set i none) G }
/-- what the clauses wish, one behind the other; all of them store in slot i -/
def wClauses (K : PySem.W.Frag) (i : Nat) (Wo : WX) (D : Ends) : List Cl → WX
  | [] => Wo
  | (c, ts) :: more => fun cls d τ G => ∃ yes, PySem.W.exmOne K cls c = some yes ∧ (yes = true → ∀ e, G e = none → ts e cls d (goneD i D) (τ.set i (some (.ref e))) G) ∧ (yes = false → wClauses K i Wo D more cls d τ G)
inductive Clauses (X : Cx) (n : Str) : List ExceptHandler → List Cl → Prop
  | nil : Clauses X n [] []
  | cons {x : Str} {c : Value} {ts : Addr → Value → Option Addr → TS} {s0 : Stmt} {ss : List Stmt} {pa pb : Pos} {hs : List ExceptHandler} {l : List Cl} (nm : Names X x c)
      (su : ∀ (e : Addr) (oe : Obj) (cls : Value) (d : Option Addr) (pn : List (Addr × Obj)), Zc cls d oe → (∃ vs, oe.data = .fields vs) → PSs (X.suite e ((e, oe) :: pn)) (s0 :: ss) (ts e cls d)) (more : Clauses X n hs l) :
      Clauses X n (.ExceptHandler (some (.Name x pa)) (some n) (s0 :: ss) pb :: hs) ((c, ts) :: l)
section
variable {X : Cx} {n : Str} {i : Nat} {body : List Stmt} {hd : ExceptHandler} {hs : List ExceptHandler} {l : List Cl} {pos : Pos} {tb : WX → TS} {Wo : WX}
/-- an end of the suite: the name goes, the frame is ours again -/
theorem suite_end {pins : List (Addr × Obj)} {D : Ends} {ok : X.Ok} {e : Addr} {q : Addr × Obj} {fl : Flow} {s6 : Shared} {pb : Pos} (hN : X.N.Nodup) (hi : X.N[i]? = some n) (hln : X.env.kindOf n = some .local)
    (h : SP (X.suite e (q :: (X.pn ++ pins))) [] (goneD i D) fl s6) :
    wpAny (model X.prog X.w) X.A (do bindName X.env n .none; unbindBehindTheSuite X.env n pb) (fun _ s7 => SP X pins D fl s7) X.xe s6 := by
  cases fl with
  | ret u =>
    obtain ⟨v, τ, G, J, r, z⟩ := h
    refine gone_ok (J.unsuite ok) hN hi hln fun s7 J7 => ?_
    exact ⟨v, _, _, J7, r, z⟩
  | next =>
    obtain ⟨τ, G, J, z⟩ := h
    refine gone_ok (J.unsuite ok) hN hi hln fun s7 J7 => ?_
    exact ⟨_, _, J7, z⟩
  | brk =>
    obtain ⟨τ, G, J, z⟩ := h
    refine gone_ok (J.unsuite ok) hN hi hln fun s7 J7 => ?_
    exact ⟨_, _, J7, z⟩
  | cont =>
    obtain ⟨τ, G, J, z⟩ := h
    refine gone_ok (J.unsuite ok) hN hi hln fun s7 J7 => ?_
    exact ⟨_, _, J7, z⟩
theorem ps_try_clauses (hst : X.stack = X.env :: X.outer) (hfr : X.env.frame = some X.env.locals) (hN : X.N.Nodup) (hi : X.N[i]? = some n) (hln : X.env.kindOf n = some .local) (tk : Takes X Wo)
    (hb : ∀ (W : WX) (pn : List (Addr × Obj)) (xe : Value → Shared → Prop), Takes (X.tr pn xe) W → PassesOwn (model X.prog X.w) X.A X.env xe → PSs (X.tr pn xe) body (tb W))
    (hh : Clauses X n (hd :: hs) l) : PS X (.Try body (hd :: hs) [] [] pos) (fun D σ H => tb (wClauses X.K i Wo D l) D σ H) := by
  constructor
  intro pins s σ H D I start
  have ok := I.ok
  have frs_ : X.A.frames = some (X.env :: X.outer) := ok.frames.trans (by rw [hst])
  refine wpAny_Try_except ?_
  have run := (hb (wClauses X.K i Wo D l) (X.pn ++ pins) (fun ev t1 => wpAny (model X.prog X.w) X.A (noteFrame ev X.env) (fun _ t2 => wpAny (model X.prog X.w) X.A (setFlight ev none)
    (fun _ t3 => wpAny (model X.prog X.w) X.A (handleBy ev X.env (hd :: hs)) (SP X pins D) X.xe t3) X.xe t2) X.xe t1) (fun u t xx => ?_) PassesOwn.looking).run [] s σ H D (I.toTry _) start
  · refine wpAny_mono run (fun f t z => ?_) (fun ev t z => z)
    cases f with
    | ret u =>
      obtain ⟨v, τ, G, J, r, q⟩ := z
      exact ⟨v, τ, G, J.ofTry ok, r, q⟩
    | next =>
      obtain ⟨τ, G, J, q⟩ := z
      exact wpAny_execs_nil ⟨τ, G, J.ofTry ok, q⟩
    | brk =>
      obtain ⟨τ, G, J, q⟩ := z
      exact ⟨τ, G, J.ofTry ok, q⟩
    | cont =>
      obtain ⟨τ, G, J, q⟩ := z
      exact ⟨τ, G, J.ofTry ok, q⟩
  obtain ⟨e, B, t0, pins0, τ, G, cls, d, rfl, J0, ground, up, sky, ne, eos, bare, wish⟩ := xx
  have J : Inv X pins τ G t0 := J0.ofTry ok
  have sky2 : Sky B (X.env :: X.outer) e (Zc cls d) X.env.locals t.heap := by
    rw [← hst]
    exact sky
  show wpAny (model X.prog X.w) X.A (noteFrame (.ref e) X.env) _ _ _
  refine Sky.land Zc.steady frs_ hfr sky2 fun g3 fly3 up3 => ?_
  have up03 := up.trans up3
  have J3 : Inv X pins τ G { t with heap := g3 } := J.landed ground fly3.1 up03 eos bare
  obtain ⟨o3, v3, get3, z3, d3⟩ := fly3.there
  have out : e ∉ frs (X.env :: X.outer) := fun m => by
    obtain ⟨_, o', e', no⟩ := fly3.2.2.1.mem m
    rw [get3] at e'
    cases e'
    exact no _ d3
  have outL : e ≠ X.env.locals := fun z => out (List.mem_filterMap.mpr ⟨X.env, List.mem_cons_self, by rw [hfr, z]⟩)
  have outF : e ∉ X.fs := fun m => by
    obtain ⟨env', he', q⟩ := List.mem_filterMap.mp m
    exact out (List.mem_filterMap.mpr ⟨env', List.mem_cons_of_mem _ he', q⟩)
  have S3 := J3.suite get3 d3 ne outL outF
  have main : ∀ {hs' : List ExceptHandler} {l' : List Cl}, Clauses X n hs' l' → wClauses X.K i Wo D l' cls d τ G → wpAny (model X.prog X.w) X.A (handleBy (.ref e) X.env hs') (SP X pins D) X.xe { t with heap := g3 } := by
    intro hs' l' c
    induction c with
    | nil =>
      intro w
      refine wpAny_handleBy_nil ?_
      obtain ⟨_, _, _, oe, vs, T, oT, ts', he, _, hdt, h1, _⟩ := id fly3
      have fin : wpAny (model X.prog X.w) X.A (setFlight (.ref e) X.env.frame) (fun _ t4 => wpAny (model X.prog X.w) X.A (throw (.ref e) : Sem Flow) (SP X pins D) X.xe t4) X.xe { t with heap := g3 } := by
        rw [hfr]
        refine HandSPX.setFlight_upZ fly3 fun g4 held4 up4 => wpAny_throw (tk _ _ ⟨e, B, t0, pins, τ, G, cls, d, rfl, J, ground, up03.trans up4, .inr (.inr ?_), ne, eos, bare, w⟩)
        rw [hst]
        exact held4
      unfold PySem.passOn
      refine wpAny_bind (wpAny_field he hdt h1 ?_)
      have notNone : ¬ ((Value.ref T == Value.none) = true) := by simp
      rw [if_neg notNone]
      first
        | exact wpAny_bind fin
        | exact wpAny_bind (wpAny_pure (wpAny_bind fin))
    | @cons x c ts s0 ss pa pb hs2 l2 nm su more ih =>
      intro w
      obtain ⟨yes, hy, w1, w0⟩ := w
      refine wpAny_handleBy_cons (codeAny_handlers_test ?_) (by intro q; cases q)
      have ty : PySem.W.Looks (model X.prog X.w) g3 (typeOf (.ref e)) cls := fun A Q E s k q => wpAny_typeOf_ref (k _ _ get3) (by rw [z3.1]; exact q)
      have mt := PySem.W.exm_one (M := model X.prog X.w) (J3.kIn) ty hy
      have named : ∀ {Q : Value → Shared → Prop} {E : Value → Shared → Prop}, Q c { t with heap := g3 } → wpAny (model X.prog X.w) (X.A.mark (some (.ref e))) (eval (.Name x pa) X.env) Q E { t with heap := g3 } := by
        intro Q E q
        obtain ⟨hg, hdbg, inMod | ⟨notIn, isB, notName⟩⟩ := nm
        · exact ld_glob (X := X.suite e ((e, o3) :: (X.pn ++ pins))) S3 hg inMod q hdbg
        · exact ld_blt (X := X.suite e ((e, o3) :: (X.pn ++ pins))) S3 hg notIn isB q notName hdbg
      refine named (mt.here ?_)
      cases yes with
      | false => exact ih (w0 rfl)
      | true =>
        refine codeAny_handlers_suite_as (HandSPX.lands_againZ fly3 fun g4 fly4 up4 => ?_)
        have J4 : Inv X pins τ G { t with heap := g4 } := J.landed ground fly4.1 (up03.trans up4) eos bare
        obtain ⟨o4, v4, get4, z4, d4⟩ := fly4.there
        refine store_ok (X := X.suite e ((e, o4) :: (X.pn ++ pins))) (v := .ref e) (J4.suite get4 d4 ne outL outF) hN hi (.inl hln) rfl (fun s5 S5 => ?_) (.inr hln)
        refine wpAny_mono ((su e o4 cls d (X.pn ++ pins) z4 ⟨_, d4⟩).run [] s5 _ G _ S5 (w1 rfl e ne)) (fun fl s6 z => ?_) (fun _ _ z => False.elim z)
        have fin := suite_end (ok := ok) (pb := pb) hN hi hln z
        cases fl <;> exact fin
  exact main hh wish
end
end L2

set_option Elab.async false
set_option linter.all false
set_option maxRecDepth 100000
set_option maxHeartbeats 2000000
/-! Part C: a def that gets the handled exception, called in an except suite; isinstance of it -/
namespace L2
open PySem PySem.Spec PyProof.Rows
/-- a promise that speaks of the handled exception: its address, its class, its own dict -/
abbrev SpP := Addr → Value → Option Addr → Sp
structure FnPin (P : Program) (w : World) (K : PySem.W.Frag) (mg : Str → Option Value) (base : Heap) (k : Nat) (f : Addr) (fd : FuncData) (ps : List Str) (sp : SpP) : Prop where
  len : ∀ a cls d vs H Q E, sp a cls d vs H Q E → vs.length = ps.length
  run : ∀ (A : Around) (outer : List Env) (s : Shared) (H : Hp) (args : Args) (us : List Value) (vs : List V) (Q : VK) (E : XK) (p : Addr × Obj) (cls : Value) (d : Option Addr), L2H.RoomH k A → L2H.PinOk outer H s p → Zc cls d p.2 → (∃ xs, p.2.data = .fields xs) → Env0 P w K mg base A outer s H → BindsTo s fd args (ps.zip us) → Vals vs us → sp p.1 cls d vs H Q E →
    codeAny (model P w) A (.call (.ref f) args) (CR CX0 outer P w H s Q E) s
section
variable {P : Program} {w : World} {K : PySem.W.Frag} {mg : Str → Option Value} {base : Heap}
theorem Fun.okPin {x qual : Str} {st : Stmt} {f : Addr} {fd : FuncData} {N ps : List Str} {k : Nat} {sp : SpP} (F : Fun K x qual st f fd) (S : FnScope N ps (defScope st)) (len : ∀ a cls d vs H Q E, sp a cls d vs H Q E → vs.length = ps.length)
    (hbody : ∀ (cdv : Value) (A : Around) (outer : List Env) (s : Shared) (H : Hp) (vs : List V) (Q : VK) (E : XK) (p : Addr × Obj) (cls : Value) (d : Option Addr), Zc cls d p.2 → (∃ xs, p.2.data = .fields xs) → L2H.RoomH k (A.deeper (envOfC qual (defScope st) s.heap.objs.size f cdv)) → sp p.1 cls d vs H Q E →
      ∃ t, PSs (L2H.cxH CX0 P w K mg base N qual (defScope st) f cdv A outer s H E p) (defBody st) t ∧ t { nx := fun _ G => Q .non G, rt := Q } (start N vs) H) : FnPin P w K mg base (k + 1) f fd ps sp := by
  obtain ⟨oc, od, kV, doc, pm, an, cdv, ct, osl, rfl, lk, hcd⟩ := F.ex
  refine ⟨len, fun A outer s H args us vs Q E p cls d room pin hz hf e0 hb rel want => ?_⟩
  have same := len _ _ _ _ _ _ _ want
  have base_in : ∀ b o, base.get? b = some o → s.heap.get? b = some o := fun b o e => (e0.bs b o e).1
  have KX : K.In s.heap := e0.mod.kin.keeps base_in
  have kinds : ∀ y ∈ ps.zip us, (defScope st).names.lookup y.1 = some .local ∨ ((defScope st).names.lookup y.1 = some .cell ∧ ((cellsFrom (s.heap.objs.size + 1) (defScope st).names []).lookup y.1).isSome = true) := by
    intro y hy
    obtain ⟨nm, v⟩ := y
    rcases S.par nm (List.of_mem_zip hy).1 with q | q
    · exact Or.inl q
    · exact Or.inr ⟨q, PySem.W.cellsFrom_some _ _ _ (Or.inl q)⟩
  refine codeAny_call_function room.depth (KX _ _ lk) rfl S.co S.gen rfl (PySem.W.codeRec_of KX hcd) (hb _ _ _ _ ?_)
  refine wpAny_newFunctionEnv_cells S.kind kinds fun env he s1 entered => ?_
  subst he
  refine ⟨(e0.mod.nolimit.keeps base_in).keeps entered.toInCall.keep, codeAny_func ?_⟩
  obtain ⟨t, body, reads⟩ := hbody cdv A outer s H vs Q E p cls d hz hf (room.deeper _) want
  have I : Inv (L2H.cxH CX0 P w K mg base N qual (defScope st) f cdv A outer s H E p) [] (start N vs) H s1 := L2H.inv_startH S pin e0 same rel entered
  refine wpAny_mono (body.run [] s1 (start N vs) H _ I reads) (fun fl s' z => ?_) fun _ _ z => z
  cases fl with
  | ret u =>
    obtain ⟨v, τ, G, J, r, q⟩ := z
    exact ⟨v, G, J.os, J.bare, J.base, J.hok, r, q⟩
  | next =>
    obtain ⟨τ, G, J, q⟩ := z
    exact ⟨V.non, G, J.os, J.bare, J.base, J.hok, rfl, q⟩
  | brk =>
    obtain ⟨_, _, _, q⟩ := z
    exact q.elim
  | cont =>
    obtain ⟨_, _, _, q⟩ := z
    exact q.elim
end
section
variable {X : Cx} {k : Nat} {f : Addr} {fd : FuncData} {ps : List Str} {sp : SpP} {x : Str} {q pos : Pos} {e : Expr} {es : List Expr} {t : TA} {a : Addr} {oe : Obj} {cls : Value} {d : Option Addr}
/-- f(e, ..) in a suite that handles p -/
def tCallPin (sp : SpP) (a : Addr) (cls : Value) (d : Option Addr) (t : TA) : TE := fun σ H Q => t σ H fun vs H1 => sp a cls d vs H1 Q E0
theorem pe_callPin (F : FnPin X.prog X.w X.K X.mg X.base k f fd ps sp) (hr : L2H.RoomH k X.A) (hp : (a, oe) ∈ X.pn) (hz : Zc cls d oe) (hf : ∃ xs, oe.data = .fields xs) (hg : Gl X x) (hm : X.mg x = some (.ref f)) (hk : PySem.W.keepIn X.K (.ref f) = true) (hb : Binds X.K fd ps [])
    (ha : PA X (e :: es) t) (hdb : (x == ("__debug__" : Str)) = false := by decide) (he : starEach (e :: es) X.env = (false, eval e X.env) :: starEach es X.env := by rfl) (hpl : (backTo pos (starEach es X.env)).any (·.1) = false := by rfl) :
    PE X (.Call (.Name x q) (e :: es) [] pos) (tCallPin sp a cls d t) := by
  constructor
  intro pins s σ H Q I h
  refine wpAny_Call_Name_kw (ld_glob I hg hm ?_ hdb)
  refine PySem.W.callWith_K (h₀ := X.base) I.ok.mod.kin hk (thn (ha.run pos pins s σ H _ I h) fun us s1 z => ?_) he hpl
  obtain ⟨vs, H1, I1, rel, want⟩ := z
  refine ⟨I1.kIn, ?_⟩
  have hl : us.length = ps.length := rel.length.symm.trans (F.len _ _ _ _ _ _ _ want)
  have b := hb s1 us I1.kIn (by rw [List.append_nil]; exact hl)
  rw [List.append_nil] at b
  obtain ⟨g1, g2, g3, g4, g5⟩ := I1.pin (a, oe) (List.mem_append_left _ hp)
  have pin : L2H.PinOk X.stack H1 s1 (a, oe) := ⟨g1, g2, fun m => (List.mem_cons.mp (I1.stkSub a m)).elim g3 g4, g5⟩
  refine wpAny_call (codeAny_mono (F.run X.A X.stack s1 H1 ⟨us, []⟩ us vs Q E0 (a, oe) cls d hr pin hz hf I1.env0 b rel want) fun r s' z => ?_)
  cases r with
  | error ev => exact False.elim z
  | ok fl =>
    cases fl with
    | ret u => exact I1.after z
    | next => exact False.elim z
    | brk => exact False.elim z
    | cont => exact False.elim z
end
/-- what isinstance asks of the class of an exception -/
structure ExI (K : PySem.W.Frag) (D : Addr) : Prop where
  cl : (PySem.W.clsIn K D).isSome = true
  ga : PySem.W.findIn K (.ref D) "__getattribute__" = some (some (.builtin "BaseException.__getattribute__"))
  gg : PySem.W.findIn K (.ref D) "__getattr__" = some none
  sb : PySem.W.subIn K (.ref D) (.type "BaseException") = some true
  ca : PySem.W.findIn K (.ref D) "__class__" = some (some (.builtin "object.__class__"))
  gt : PySem.W.specialIn K (.builtin "object.__class__") "__get__" = some (some (.builtin "getset_descriptor.__get__"))
  tk : PySem.W.takesIn K (.builtin "object.__class__") = some true
  mo : PySem.W.mroIn K D (.type "object") = some true
def rIsPin (K : PySem.W.Frag) (a : Addr) (cls : Value) (d : Option Addr) : List V → Hp → VK → Prop := fun xs H Q => ∃ (D dd : Addr) (c : V) (cv : Value) (b : Bool) (fs : List (Str × V)), cls = .ref D ∧ d = some dd ∧ ExI K D ∧
  xs = [.ref a, c] ∧ (∀ u, RelV c u → u = cv) ∧ PySem.W.kitOne K (.ref D) cv = some b ∧ H dd = some (.xd fs) ∧ Q (.bl b) H
theorem call_isPin {X : Cx} {a : Addr} {oe : Obj} {cls : Value} {d : Option Addr} (hp : (a, oe) ∈ X.pn) (hz : Zc cls d oe) (hf : ∃ vs, oe.data = .fields vs) : CallR X (.builtin "isinstance") (rIsPin X.K a cls d) := by
  intro pins s σ H xs us Q I r h
  obtain ⟨D, dd, c, cv, b, fs, rfl, rfl, C, rfl, hcv, e, ed, q⟩ := h
  cases r with
  | cons rx rr =>
    cases rr with
    | cons rt rr =>
      cases rr
      cases rx
      obtain rfl := hcv _ rt
      have hget := (I.pin (a, oe) (List.mem_append_left _ hp)).1
      have hx : ObjOk X.prog X.w H s.heap dd (.xd fs) := I.hok dd _ ed
      obtain ⟨mA, ⟨od, es, ep, hod, _⟩, _⟩ := hx
      obtain ⟨vs, hv⟩ := hf
      have at_ : PySem.W.InstAt s.heap a oe D (some od) := ⟨hget, hz.1, by unfold PySem.W.notCls; rw [hv] <;> rfl, by rw [hz.2]; exact hod⟩
      exact PySem.W.kia_one (PySem.W.kitx_exc C.cl C.ga C.gg C.sb C.ca C.gt C.tk C.mo) I.kIn at_ e (fun z => nomatch z) fun tk => ⟨.bl b, H, I.tok tk, rfl, q⟩
end L2

set_option Elab.async false
set_option linter.all false
set_option maxRecDepth 100000
set_option maxHeartbeats 4000000
/-! Texts, a: words, numbers, terms -/
namespace K14
open PySem L2
def top (i : Nat) : Stmt := PySem.Challenge.pw_tagblocks_k14_whole_block_lines_read.main.body.getD i (.Pass ⟨0, 0, 0, 0⟩)
abbrev PP : Program := PySem.Challenge.pw_tagblocks_k14_whole_block_lines_read
abbrev sAmong : Stmt := top 15
abbrev sLines : Stmt := top 16
abbrev sNum : Stmt := top 17
abbrev sBetw : Stmt := top 17
abbrev sTerm : Stmt := top 18
abbrev sSum : Stmt := top 19
abbrev sComp : Stmt := top 20
abbrev sPart : Stmt := top 21
abbrev sTest : Stmt := top 22
/-! ### what stands in the module -/
structure TxtN (mg : Str → Option Value) : Prop where
  isi : mg "isinstance" = none
  str : mg "str" = none
  len : mg "len" = none
  int : mg "int" = none
  range : mg "range" = none
  tuple : mg "tuple" = none
  list : mg "list" = none
  enumerate : mg "enumerate" = none
  min : mg "min" = none
  fig : ∃ t, mg "MOST_FIGURES" = some (.int 30 t)
  terms : ∃ t, mg "MOST_TERMS" = some (.int 4 t)
  parts : ∃ t, mg "MOST_PARTS" = some (.int 4 t)
/-! ### membership -/
theorem inV_str (w : Str) : ∀ ns : List Str, inV (.str w) (ns.map V.str) = decide (w ∈ ns)
  | [] => by simp [inV]
  | n :: ns => by
    have ih := inV_str w ns
    unfold inV at ih ⊢
    rw [List.map_cons, List.any_cons, ih]
    by_cases h : w = n
    · subst h
      simp [eqV]
    · have h2 : ¬ n = w := fun z => h z.symm
      simp [eqV, h, h2]
theorem flat_str : ∀ ns : List Str, (ns.map V.str).all flatV = true
  | [] => rfl
  | n :: ns => by
    rw [List.map_cons, List.all_cons, flat_str ns]
    rfl
/-! ### the mirrors -/
def numM (w : Str) : Option Int := if (!Txt.isdigit w || decide (30 < w.length)) = true then none else if (decide (1 < w.length) && Txt.startswith w "0") = true then none else intText? w
/-- what is written in figures alone can be read -/
def NumOk (w : Str) : Prop := Txt.isdigit w = true → w.length ≤ 30 → ∃ n, intText? w = some n
def optI : Option Int → V
  | none => .non
  | some n => .int n
def termV (w : Str) (ns : List Str) : Option V := if w ∈ ns then some (.str w) else (numM w).map V.int
def optV : Option V → V
  | none => .non
  | some v => v
/-! ### the promises -/
def spAmong (K : PySem.W.Frag) : Sp := fun vs H Q _ => ∃ (w : Str) (t : Addr) (ns : List Str), vs = [.str w, .ref t] ∧ SqT K H t (ns.map V.str) ∧ Q (.bl (decide (w ∈ ns))) H
def spNum : Sp := fun vs H Q _ => ∃ w : Str, vs = [.str w] ∧ w.length ≤ 1000 ∧ NumOk w ∧ Q (optI (numM w)) H
def spTerm (K : PySem.W.Frag) : Sp := fun vs H Q _ => ∃ (w : Str) (t : Addr) (ns : List Str), vs = [.str w, .ref t] ∧ w.length ≤ 1000 ∧ NumOk w ∧ SqT K H t (ns.map V.str) ∧ Q (optV (termV w ns)) H
section
variable {P : Program} {w : World} {K : PySem.W.Frag} {mg : Str → Option Value} {base : Heap}
theorem scAmong : FnScope ["value", "words"] ["value", "words"] (defScope sAmong) := ⟨rfl, rfl, rfl, by decide +kernel, rfl, by decide +kernel, by decide +kernel⟩
theorem ok_among {f : Addr} {fd : FuncData} (F : Fun K "is_among" "is_among" sAmong f fd) (T : TxtN mg) : FnOk P w K mg base CX0 1 f fd ["value", "words"] (spAmong K) := by
  refine F.ok scAmong (fun vs H Q E h => ?_) (fun cdv A outer s H vs Q E hr h => ?_)
  · obtain ⟨x, t, ns, rfl, _⟩ := h
    rfl
  · obtain ⟨x, t, ns, rfl, ht, k⟩ := h
    refine ⟨_, pss_one (ps_ret (pe_and (pe_callB (id := "isinstance") call_isi (by rfl) T.isi (by decide +kernel) (pa_cons (pv 0) (pa_cons (pe_bltn (v := .ty "str") (by rfl) T.str (by decide +kernel) rfl) pa_nil))) (pe_one (pe_cmpR op_in_seq (pv 0) (pv 1) (by rfl))))), ?_⟩
    refine ⟨_, rfl, .str x, .ty "str", .type "str", .type "str", true, rfl, .ty _, .base (.str _), rfl, _, rfl, ?_⟩
    refine iteT ?_
    refine ⟨_, rfl, _, rfl, t, _, rfl, .inr ht, rfl, flat_str ns, ?_⟩
    rw [if_neg Bool.false_ne_true, inV_str]
    exact k
theorem scNum : FnScope ["word"] ["word"] (defScope sNum) := ⟨rfl, rfl, rfl, by decide +kernel, rfl, by decide +kernel, by decide +kernel⟩
theorem ok_num {f : Addr} {fd : FuncData} (F : Fun K "number_in" "number_in" sNum f fd) (T : TxtN mg) : FnOk P w K mg base CX0 1 f fd ["word"] spNum := by
  obtain ⟨tk, hfig⟩ := T.fig
  refine F.ok scNum (fun vs H Q E h => ?_) (fun cdv A outer s H vs Q E hr h => ?_)
  · obtain ⟨x, rfl, _⟩ := h
    rfl
  · obtain ⟨x, rfl, hx, hok, k⟩ := h
    have hz : x.length ≤ sizeLine := Nat.le_of_lt (small1000 hx)
    refine ⟨_, pss_cons (ps_if (PW.pt (pw_or (pt_not (pt_val (pe_bm0 PySem.F.plainAttrs_str PySem.F.slot_str_isdigit PySem.F.type_str_isdigit mt_isdigit (pv 0)))) (pw_or1 (pt_cmpR op_gt (pe_callB call_len_str (by rfl) T.len PySem.boot_len (pa_cons (pv 0) pa_nil)) (pe_glob (v := .int 30) (by rfl) hfig ⟨tk, rfl⟩) (nomark _))))) (pss_one (ps_ret pe_non)) pss_nil)
      (pss_cons (ps_if (PW.pt (pw_and (pt_cmpR op_gt (pe_callB call_len_str (by rfl) T.len PySem.boot_len (pa_cons (pv 0) pa_nil)) pe_int (nomark _)) (pw_and1 (pt_val (pe_bm PySem.F.plainAttrs_str PySem.F.slot_str_startswith PySem.F.type_str_startswith mt_startswith (pv 0) (pa_cons pe_str pa_nil)))))) (pss_one (ps_ret pe_non)) pss_nil)
      (pss_one (ps_ret (pe_callTy call_int_str (by rfl) T.int (by decide +kernel) (pa_cons (pv 0) pa_nil))))), ?_⟩
    refine ⟨_, rfl, rfl, x, rfl, rfl, True.intro, _, rfl, ?_⟩
    cases e1 : Txt.isdigit x with
    | false =>
      refine ite2 (fun _ => ?_) (fun z => absurd rfl z)
      refine iteT ?_
      have : numM x = none := by
        unfold numM
        rw [e1]
        rfl
      rw [this] at k
      exact k
    | true =>
      refine ite2 (fun z => Bool.noConfusion z) (fun _ => ?_)
      refine ⟨_, rfl, x, rfl, hz, _, _, rfl, rfl, _, rfl, ?_⟩
      refine ite2 (fun h30 => ?_) (fun h30 => ?_)
      · have h : (30 : Int) < (x.length : Int) := of_decide_eq_true h30
        have : numM x = none := by
          unfold numM
          rw [e1, decide_eq_true (show 30 < x.length by omega)]
          rfl
        rw [this] at k
        exact k
      · have h : ¬ (30 : Int) < (x.length : Int) := fun z => h30 (decide_eq_true z)
        have hM : numM x = if (decide (1 < x.length) && Txt.startswith x "0") = true then none else intText? x := by
          unfold numM
          rw [e1, decide_eq_false (show ¬ 30 < x.length by omega)]
          rfl
        obtain ⟨n, hn⟩ := hok e1 (by omega)
        have fin : (decide (1 < x.length) && Txt.startswith x "0") = false → Q (.int n) H := fun z => by
          rw [hM, z, if_neg Bool.false_ne_true, hn] at k
          exact k
        have out : (decide (1 < x.length) && Txt.startswith x "0") = true → Q .non H := fun z => by
          rw [hM, if_pos z] at k
          exact k
        refine ⟨_, rfl, x, rfl, hz, _, _, rfl, rfl, _, rfl, ?_⟩
        refine ite2 (fun h1 => ?_) (fun h1 => ?_)
        · have h1' : 1 < x.length := by have := of_decide_eq_true h1; omega
          refine ⟨_, rfl, rfl, x, "0", rfl, rfl, _, rfl, ?_⟩
          refine ite2 (fun h2 => ?_) (fun h2 => ?_)
          · exact out (by rw [h2, decide_eq_true h1']; rfl)
          · exact ⟨_, rfl, x, n, rfl, hn, by omega, fin (by rw [Bool.eq_false_iff.mpr h2, Bool.and_false])⟩
        · have h1' : ¬ 1 < x.length := fun z => h1 (decide_eq_true (by omega))
          exact ⟨_, rfl, x, n, rfl, hn, by omega, fin (by rw [decide_eq_false h1', Bool.false_and])⟩
theorem scTerm : FnScope ["word", "names"] ["word", "names"] (defScope sTerm) := ⟨rfl, rfl, rfl, by decide +kernel, rfl, by decide +kernel, by decide +kernel⟩
theorem ok_term {f fN : Addr} {fd fdN : FuncData} (F : Fun K "term_in" "term_in" sTerm f fd) (T : TxtN mg) (FN : Fun K "number_in" "number_in" sNum fN fdN) (bN : Binds K fdN ["word"] []) (gN : mg "number_in" = some (.ref fN)) : FnOk P w K mg base CX0 2 f fd ["word", "names"] (spTerm K) := by
  have GN : FnOk P w K mg base CX0 1 fN fdN ["word"] spNum := ok_num FN T
  refine F.ok scTerm (fun vs H Q E h => ?_) (fun cdv A outer s H vs Q E hr h => ?_)
  · obtain ⟨x, t, ns, rfl, _⟩ := h
    rfl
  · obtain ⟨x, t, ns, rfl, hx, hok, ht, k⟩ := h
    refine ⟨_, pss_cons (ps_if (pt_cmpR op_in_seq (pv 0) (pv 1) (by rfl)) (pss_one (ps_ret (pv 0))) pss_nil)
      (pss_one (ps_ret (pe_call GN hr rfl gN FN.kp bN .nil pass0 (pa_cons (pv 0) pa_nil)))), ?_⟩
    refine ⟨_, rfl, _, rfl, t, _, rfl, .inr ht, rfl, flat_str ns, ?_⟩
    rw [if_neg Bool.false_ne_true, inV_str]
    refine ⟨_, rfl, ?_⟩
    unfold termV at k
    refine ite2 (fun h => ?_) (fun h => ?_)
    · rw [if_pos (of_decide_eq_true h)] at k
      exact ⟨_, rfl, k⟩
    · rw [if_neg (fun z => h (decide_eq_true z))] at k
      refine ⟨_, rfl, x, rfl, hx, hok, ?_⟩
      cases e : numM x with
      | none =>
        rw [e] at k
        exact k
      | some n =>
        rw [e] at k
        exact k
end
end K14

set_option Elab.async false
set_option linter.all false
set_option maxRecDepth 100000
set_option maxHeartbeats 8000000
/-! Texts, b: sums -/
namespace K14
open PySem L2
def prs : List Str → List (Str × Str)
  | s :: t :: r => (s, t) :: prs r
  | _ => []
theorem prs_get : ∀ (S : List Str) (i : Nat) (s t : Str), S[2 * i]? = some s → S[2 * i + 1]? = some t → (prs S)[i]? = some (s, t)
  | [], i, s, t, h, _ => by simp at h
  | [x], i, s, t, _, h => by simp at h
  | x :: y :: r, 0, s, t, h1, h2 => by
    simp at h1 h2
    simp [prs, h1, h2]
  | x :: y :: r, i + 1, s, t, h1, h2 => by
    have e1 : 2 * (i + 1) = 2 * i + 1 + 1 := by omega
    have e2 : 2 * (i + 1) + 1 = (2 * i + 1) + 1 + 1 := by omega
    rw [e1] at h1
    rw [e2] at h2
    simp only [List.getElem?_cons_succ] at h1 h2
    simp only [prs, List.getElem?_cons_succ]
    exact prs_get r i s t h1 h2
/-- terms so far -/
abbrev Acc := List (Int × V)
def keyV : V → Key
  | .str x => .inr x
  | .int n => .inl n
  | _ => .inl 0
def usedL : Acc → List (Key × V)
  | [] => []
  | (_, .str x) :: r => (.inr x, .bl true) :: usedL r
  | _ :: r => usedL r
def sgn (s : Str) : Int := if s = "+" then 1 else -1
def sumGo (ns : List Str) : List (Str × Str) → Acc → Option Acc
  | [], acc => some acc
  | (s, t) :: r, acc => match termV t ns with
    | none => none
    | some v => if (decide (s ∈ [("+" : Str), "-"]) && !(valV (usedL acc) (keyV v)).isSome) = true then sumGo ns r (acc ++ [(sgn s, v)]) else none
def sumM (ws ns : List Str) : Option Acc := if ws.length % 2 = 0 ∨ 7 < ws.length then none else sumGo ns (prs (("+" : Str) :: ws)) []
def datV : V → PyData
  | .str x => .str x
  | .int n => .int n
  | _ => .none
def sumD (acc : Acc) : PyData := .tuple (acc.map fun p => .tuple [.int p.1, datV p.2])
mutual
/-- data of tuples, texts and numbers alone -/
inductive TDp (K : PySem.W.Frag) (H : Hp) : V → PyData → Prop
  | non : TDp K H .non .none
  | bl (b : Bool) : TDp K H (.bl b) (.bool b)
  | int (i : Int) : TDp K H (.int i) (.int i)
  | str (x : Str) : TDp K H (.str x) (.str x)
  | tup {a : Addr} {xs : List V} {ds : List PyData} : SqT K H a xs → TDpAll K H xs ds → TDp K H (.ref a) (.tuple ds)
inductive TDpAll (K : PySem.W.Frag) (H : Hp) : List V → List PyData → Prop
  | nil : TDpAll K H [] []
  | cons {v : V} {vs : List V} {d : PyData} {ds : List PyData} : TDp K H v d → TDpAll K H vs ds → TDpAll K H (v :: vs) (d :: ds)
end
/-- the tuples are kept -/
def Tk (H H' : Hp) : Prop := ∀ (K : PySem.W.Frag) (a : Addr) (xs : List V), SqT K H a xs → SqT K H' a xs
theorem Same.tk {H H' : Hp} (s : Same H H') : Tk H H' := fun K a xs h => by
  rcases h with (h | ⟨o, h⟩) | h
  · exact .inl (.inl (s _ _ h))
  · exact .inl (.inr ⟨o, s _ _ h⟩)
  · exact .inr h
theorem Tk.trans {H H1 H2 : Hp} (a : Tk H H1) (b : Tk H1 H2) : Tk H H2 := fun K p xs h => b K p xs (a K p xs h)
/-- a list or a dict is written -/
theorem Tk.write {H : Hp} {a : Addr} {o u : HO} (ha : H a = some u) (h1 : ∀ xs, u ≠ .tup xs := by intro _ z; cases z) (h2 : ∀ ob y, u ≠ .frz ob y := by intro _ _ z; cases z) : Tk H (upd H a o) := fun K b xs h => by
  rcases h with (h | ⟨ob, h⟩) | h
  · exact .inl (.inl (by rw [upd_ne (fun z => h1 _ (by rw [z] at h; exact Option.some.inj (ha.symm.trans h)))]; exact h))
  · exact .inl (.inr ⟨ob, by rw [upd_ne (fun z => h2 _ _ (by rw [z] at h; exact Option.some.inj (ha.symm.trans h)))]; exact h⟩)
  · exact .inr h
mutual
theorem TDp.keep {K : PySem.W.Frag} {H H' : Hp} (t : Tk H H') : ∀ {v : V} {d : PyData}, TDp K H v d → TDp K H' v d
  | _, _, .non => .non
  | _, _, .bl b => .bl b
  | _, _, .int i => .int i
  | _, _, .str x => .str x
  | _, _, .tup h r => .tup (t K _ _ h) (TDpAll.keep t r)
theorem TDpAll.keep {K : PySem.W.Frag} {H H' : Hp} (t : Tk H H') : ∀ {vs : List V} {ds : List PyData}, TDpAll K H vs ds → TDpAll K H' vs ds
  | _, _, .nil => .nil
  | _, _, .cons h r => .cons (TDp.keep t h) (TDpAll.keep t r)
end
theorem TDpAll.snoc {K : PySem.W.Frag} {H : Hp} {v : V} {d : PyData} (h : TDp K H v d) : ∀ {vs : List V} {ds : List PyData}, TDpAll K H vs ds → TDpAll K H (vs ++ [v]) (ds ++ [d])
  | _, _, .nil => .cons h .nil
  | _, _, .cons h1 r => .cons h1 (TDpAll.snoc h r)
theorem TDpAll.len {K : PySem.W.Frag} {H : Hp} : ∀ {vs : List V} {ds : List PyData}, TDpAll K H vs ds → vs.length = ds.length
  | _, _, .nil => rfl
  | _, _, .cons _ r => congrArg (· + 1) (TDpAll.len r)
def SumV (K : PySem.W.Frag) (H : Hp) (v : V) : Option Acc → Prop
  | none => v = .non
  | some acc => v ≠ .non ∧ TDp K H v (sumD acc)
def spSum (K : PySem.W.Frag) : Sp := fun vs H Q _ => ∃ (a t : Addr) (ws ns : List Str), vs = [.ref a, .ref t] ∧ SqL K H a (ws.map V.str) ∧ SqT K H t (ns.map V.str) ∧ (∀ w ∈ ws, w.length ≤ 1000 ∧ NumOk w) ∧ ws.length ≤ 1000 ∧
  ∀ (v : V) (H' : Hp), Same H H' → SumV K H' v (sumM ws ns) → Q v H'
theorem usedL_add (acc : Acc) (s : Int) : ∀ v : V, usedL (acc ++ [(s, v)]) = usedL acc ++ usedL [(s, v)] := by
  intro v
  induction acc with
  | nil => rfl
  | cons p r ih =>
    obtain ⟨q, x⟩ := p
    cases x <;> simp [usedL, ih]
theorem usedL_len : ∀ acc : Acc, (usedL acc).length ≤ acc.length
  | [] => Nat.le_refl _
  | (_, .str x) :: r => Nat.succ_le_succ (usedL_len r)
  | (_, .non) :: r => Nat.le_succ_of_le (usedL_len r)
  | (_, .bl _) :: r => Nat.le_succ_of_le (usedL_len r)
  | (_, .int _) :: r => Nat.le_succ_of_le (usedL_len r)
  | (_, .byt _) :: r => Nat.le_succ_of_le (usedL_len r)
  | (_, .flt _) :: r => Nat.le_succ_of_le (usedL_len r)
  | (_, .ref _) :: r => Nat.le_succ_of_le (usedL_len r)
  | (_, .ty _) :: r => Nat.le_succ_of_le (usedL_len r)
/-- a term is a name or a number -/
def IsTerm (v : V) : Prop := (∃ x, v = .str x) ∨ ∃ n, v = .int n
theorem term_is {t : Str} {ns : List Str} {v : V} (h : termV t ns = some v) : IsTerm v := by
  unfold termV at h
  split at h
  · cases h
    exact .inl ⟨_, rfl⟩
  · cases e : numM t with
    | none => rw [e] at h; cases h
    | some n =>
      rw [e] at h
      cases h
      exact .inr ⟨_, rfl⟩
/-- the terms' tuples stand -/
def TupAt (H : Hp) : List Addr → Acc → Prop := Paired fun t p => H t = some (.tup [.int p.1, p.2]) ∧ IsTerm p.2
theorem TupAt.keep {H H' : Hp} (s : Same H H') : ∀ {ts : List Addr} {acc : Acc}, TupAt H ts acc → TupAt H' ts acc
  | _, _, .nil => .nil
  | _, _, .cons h r => .cons ⟨s _ _ h.1, h.2⟩ (TupAt.keep s r)
theorem TupAt.snoc {H : Hp} {t : Addr} {p : Int × V} (h : H t = some (.tup [.int p.1, p.2]) ∧ IsTerm p.2) : ∀ {ts : List Addr} {acc : Acc}, TupAt H ts acc → TupAt H (ts ++ [t]) (acc ++ [p])
  | _, _, .nil => .cons h .nil
  | _, _, .cons h1 r => .cons h1 (TupAt.snoc h r)
/-- a list or a dict is written: the tuples stand -/
theorem tupW {H : Hp} {a : Addr} {o u : HO} (hu : ∀ xs, u ≠ .tup xs) (ha : H a = some u) : ∀ {ts : List Addr} {acc : Acc}, TupAt H ts acc → TupAt (upd H a o) ts acc
  | _, _, .nil => .nil
  | _, _, .cons h r => .cons ⟨by rw [upd_ne (fun z => hu _ (by rw [z] at h; exact Option.some.inj (ha.symm.trans h.1)))]; exact h.1, h.2⟩ (tupW hu ha r)
theorem TupAt.len {H : Hp} : ∀ {ts : List Addr} {acc : Acc}, TupAt H ts acc → ts.length = acc.length
  | _, _, .nil => rfl
  | _, _, .cons _ r => congrArg (· + 1) (TupAt.len r)
theorem dat_dp {K : PySem.W.Frag} {H : Hp} {v : V} (h : IsTerm v) : TDp K H v (datV v) := by
  rcases h with ⟨x, rfl⟩ | ⟨n, rfl⟩
  · exact .str x
  · exact .int n
theorem TupAt.dp {K : PySem.W.Frag} {H : Hp} : ∀ {ts : List Addr} {acc : Acc}, TupAt H ts acc → TDpAll K H (ts.map V.ref) (acc.map fun p => .tuple [.int p.1, datV p.2])
  | _, _, .nil => .nil
  | _, _, .cons h r => .cons (.tup (SqT.of h.1) (.cons (.int _) (.cons (dat_dp h.2) .nil))) (TupAt.dp r)
theorem rg2 {m : Nat} (h : m = 1 ∨ m = 3 ∨ m = 5 ∨ m = 7) : RgC 0 ((m : Int) + 1) 2 ((m + 1) / 2) := by
  rcases h with rfl | rfl | rfl | rfl
  all_goals exact ⟨by decide, by decide, by decide +kernel, by decide +kernel⟩
theorem Same.new {H : Hp} {a : Addr} {o : HO} (h : H a = none) : Same H (upd H a o) := fun b u e => by
  rw [upd_ne (ne_of_none e h)]
  exact e
/-- an object of ours is written, which did not stand in H -/
theorem Same.write {H G : Hp} {a : Addr} {o : HO} (s : Same H G) (h : H a = none) : Same H (upd G a o) := fun b u e => by
  rw [upd_ne (ne_of_none e h)]
  exact s b u e
theorem seqT {K : PySem.W.Frag} {H H' : Hp} {a : Addr} {xs : List V} (e : Same H H') (h : SqT K H a xs) : SqT K H' a xs := by
  rcases h with (h | ⟨o, h⟩) | h
  · exact .inl (.inl (e _ _ h))
  · exact .inl (.inr ⟨o, e _ _ h⟩)
  · exact .inr h
theorem ifF3 {c : Bool} {A B : Prop} (hc : c = false) (h : B) : if c = true then A else B := by
  rw [hc, if_neg Bool.false_ne_true]
  exact h
theorem ifT3 {c : Bool} {A B : Prop} (hc : c = true) (h : A) : if c = true then A else B := by
  rw [if_pos hc]
  exact h
theorem drop_cons {α : Type} : ∀ {l : List α} {i : Nat} {x : α}, l[i]? = some x → l.drop i = x :: l.drop (i + 1)
  | [], i, x, h => by simp at h
  | y :: l, 0, x, h => by
    simp at h
    simp [h]
  | y :: l, i + 1, x, h => by
    simp only [List.getElem?_cons_succ] at h
    simp only [List.drop_succ_cons]
    exact drop_cons h
theorem kV_key {v : V} (h : IsTerm v) : kV (keyV v) = v := by
  rcases h with ⟨x, rfl⟩ | ⟨n, rfl⟩ <;> rfl
theorem prs_len : ∀ S : List Str, (prs S).length = S.length / 2
  | [] => rfl
  | [x] => by
    show 0 = 1 / 2
    omega
  | x :: y :: r => by
    show (prs r).length + 1 = (r.length + 1 + 1) / 2
    rw [prs_len r]
    omega
section
variable {P : Program} {w : World} {K : PySem.W.Frag} {mg : Str → Option Value} {base : Heap}
theorem scSum : FnScope ["words", "names", "signed", "terms", "used", "at", "term"] ["words", "names"] (defScope sSum) := ⟨rfl, rfl, rfl, by decide +kernel, rfl, by decide +kernel, by decide +kernel⟩
theorem ok_sum {f fT : Addr} {fd fdT : FuncData} (F : Fun K "sum_in" "sum_in" sSum f fd) (T : TxtN mg) (GT : FnOk P w K mg base CX0 2 fT fdT ["word", "names"] (spTerm K)) (kT : PySem.W.keepIn K (.ref fT) = true) (bT : Binds K fdT ["word", "names"] []) (gT : mg "term_in" = some (.ref fT)) : FnOk P w K mg base CX0 3 f fd ["words", "names"] (spSum K) := by
  obtain ⟨tk, hterms⟩ := T.terms
  refine F.ok scSum (fun vs H Q E h => ?_) (fun cdv A outer s H vs Q E hr h => ?_)
  · obtain ⟨a, t, ws, ns, rfl, _⟩ := h
    rfl
  · obtain ⟨a, t, ws, ns, rfl, ha, ht, hok, hlen, k⟩ := h
    have hu := hu_of hr
    refine ⟨_, pss_cons (ps_if (PW.pt (pw_or (pt_cmpR op_eq (pe_op op_mod (pe_callB call_len_seq (by rfl) T.len PySem.boot_len (pa_cons (pv 0) pa_nil)) pe_int) pe_int (nomark _)) (pw_or1 (pt_cmpR op_gt (pe_callB call_len_seq (by rfl) T.len PySem.boot_len (pa_cons (pv 0) pa_nil)) (pe_op op_sub (pe_op op_mul pe_int (pe_glob (v := .int 4) (by rfl) hterms ⟨tk, rfl⟩)) pe_int) (nomark _))))) (pss_one (ps_ret pe_non)) pss_nil)
      (pss_cons (ps_set (i := 2) scSum.nd rfl (Or.inl rfl) (pe_lst (pa_cons pe_str (StX.pa_star (pv 0) pa_nil))))
      (pss_cons (ps_set (i := 3) scSum.nd rfl (Or.inl rfl) (pe_lst pa_nil))
      (pss_cons (ps_set (i := 4) scSum.nd rfl (Or.inl rfl) pe_dnewK)
      (pss_cons (ps_for PassesOwn.never rfl (pi_range3 (by rfl) T.range (pa_cons pe_int (pa_cons (pe_callB call_len_seq (by rfl) T.len PySem.boot_len (pa_cons (pv 2) pa_nil)) (pa_cons pe_int pa_nil)))) (pg_name (i := 5) scSum.nd rfl (Or.inl rfl))
        (pss_cons (ps_set (i := 6) scSum.nd rfl (Or.inl rfl) (pe_call GT hr rfl gT kT bT .nil pass0 (pa_cons (pe_ix ix_list (pv 2) (pe_op op_add (pv 5) pe_int) (fun _ _ => rfl)) (pa_cons (pv 1) pa_nil))))
        (pss_cons (ps_if (PW.pt (pw_or (pt_cmpR op_notIn_seq (pe_ix ix_list (pv 2) (pv 5) (fun _ _ => rfl)) (pe_tup (pa_cons pe_str (pa_cons pe_str pa_nil))) (by rfl)) (pw_or (pt_cmpR op_isN (pv 6) pe_non (nomark _)) (pw_or1 (pt_cmp (pc_din hu (pv 6) (pv 4))))))) (pss_one (ps_ret pe_non)) pss_nil)
        (pss_cons (ps_if (pt_val (pe_callB (id := "isinstance") call_isi (by rfl) T.isi (by decide +kernel) (pa_cons (pv 6) (pa_cons (pe_bltn (v := .ty "str") (by rfl) T.str (by decide +kernel) rfl) pa_nil)))) (pss_one (ps_dput hu (pv 4) (pv 6) pe_bl rfl)) pss_nil)
        (pss_one (ps_expr (pe_bm PySem.F.plainAttrs_list PySem.F.slot_list_append PySem.F.type_list_append mt_append (pv 3) (pa_cons (pe_tup (pa_cons (pe_ifExp (pt_cmpR op_eq (pe_ix ix_list (pv 2) (pv 5) (fun _ _ => rfl)) pe_str (nomark _)) pe_int (pe_un un_neg pe_int)) (pa_cons (pv 6) pa_nil))) pa_nil))))))))
      (pss_one (ps_ret (pe_callTy call_tuple_of (by rfl) T.tuple (by decide +kernel) (pa_cons (pv 3) pa_nil)))))))), ?_⟩
    have hlL : ((ws.map V.str).length : Int) = (ws.length : Int) := by rw [List.length_map]
    have out : ws.length % 2 = 0 ∨ 7 < ws.length → Q .non H := fun z => k .non H (Same.refl H) (by
      unfold sumM
      rw [if_pos z]
      rfl)
    refine ⟨_, rfl, a, _, rfl, .inl ha, _, 2, rfl, rfl, (by show (0 : Int) < 2; decide), rfl, _, rfl, ?_⟩
    refine ite2 (fun h0 => ?_) (fun h0 => ?_)
    · refine iteT ?_
      have h0' := V.int.inj (of_decide_eq_true h0)
      rw [hlL] at h0'
      exact out (.inl (by omega))
    have h0' : ws.length % 2 ≠ 0 := fun z => h0 (by
      rw [hlL]
      exact decide_eq_true (congrArg V.int (show ((ws.length : Int) % 2) = 0 by omega)))
    refine ⟨_, rfl, a, _, rfl, .inl ha, 2, 4, rfl, rfl, .inl ⟨by decide, by decide⟩, 8, 1, rfl, rfl, _, 7, rfl, rfl, _, rfl, ?_⟩
    refine ite2 (fun h7 => ?_) (fun h7 => ?_)
    · have h7' := of_decide_eq_true h7
      rw [hlL] at h7'
      exact out (.inr (by omega))
    have h7' : ws.length ≤ 7 := by
      have : ¬ (7 : Int) < ((ws.map V.str).length : Int) := fun z => h7 (decide_eq_true z)
      rw [hlL] at this
      omega
    refine ⟨_, rfl, a, _, rfl, .inr ha, (by
      rw [List.append_nil]
      exact Nat.le_of_lt (small1000 (by show (ws.map V.str).length + 1 ≤ 1000; rw [List.length_map]; omega))), fun S nS => ?_⟩
    rw [List.append_nil]
    refine ⟨(by show 0 ≤ sizeLine; decide), fun L nL => ?_⟩
    intro D nD
    have sS := Same.new (o := .lst ((("+" : Str) :: ws).map V.str)) nS
    have sL := sS.trans (Same.new (o := .lst []) nL)
    have sD := sL.trans (Same.new (o := .dK []) nD)
    have nSL : S ≠ L := fun e => by rw [← e, upd_same] at nL; cases nL
    have nSD : S ≠ D := fun e => by rw [← e, upd_ne nSL, upd_same] at nD; cases nD
    have nLD : L ≠ D := fun e => by rw [← e, upd_same] at nD; cases nD
    have HL : H L = none := sS.free nL
    have HD : H D = none := sL.free nD
    have hS0 : upd (upd (upd H S (.lst ((("+" : Str) :: ws).map V.str))) L (.lst [])) D (.dK []) S = some (.lst ((("+" : Str) :: ws).map V.str)) := by rw [upd_ne nSD, upd_ne nSL, upd_same]
    have hl1 : (((("+" : Str) :: ws).map V.str).length : Int) = (ws.length : Int) + 1 := by
      rw [List.length_map, List.length_cons]
      omega
    have hodd : ws.length = 1 ∨ ws.length = 3 ∨ ws.length = 5 ∨ ws.length = 7 := by omega
    have hrg : RgC 0 (((("+" : Str) :: ws).map V.str).length : Int) 2 ((ws.length + 1) / 2) := by
      rw [hl1]
      exact rg2 hodd
    have hsum : sumM ws ns = sumGo ns (prs (("+" : Str) :: ws)) [] := by
      unfold sumM
      rw [if_neg (by omega)]
    refine ⟨_, rfl, S, _, rfl, .inl (SqL.of hS0), 0, _, 2, _, rfl, hrg, for_rangeC (lo := 0) (c := 2) (n := (ws.length + 1) / 2)
      (fun i σ G => ∃ (acc : Acc) (ts : List Addr) (v5 v6 : Option V), σ = [some (.ref a), some (.ref t), some (.ref S), some (.ref L), some (.ref D), v5, v6] ∧ G S = some (.lst ((("+" : Str) :: ws).map V.str)) ∧ G L = some (.lst (ts.map V.ref)) ∧ G D = some (.dK (usedL acc)) ∧ TupAt G ts acc ∧ Same H G ∧
        sumGo ns (prs (("+" : Str) :: ws)) [] = sumGo ns ((prs (("+" : Str) :: ws)).drop i) acc ∧ acc.length = i)
      ⟨[], [], none, none, rfl, hS0, by rw [upd_ne nLD]; exact upd_same, upd_same, .nil, sD, rfl, rfl⟩ ?_ ?_⟩
    · rintro i σ G hi ⟨acc, ts, v5, v6, rfl, hS, hL, hD, hT, hH, hgo, hacc⟩
      have hi2 : 2 * i + 1 < (("+" : Str) :: ws).length := by
        rw [List.length_cons]
        omega
      have hTl := hT.len
      obtain ⟨s1, e1⟩ : ∃ s1, (("+" : Str) :: ws)[2 * i]? = some s1 := ⟨_, List.getElem?_eq_getElem (by omega)⟩
      obtain ⟨t1, e2⟩ : ∃ t1, (("+" : Str) :: ws)[2 * i + 1]? = some t1 := ⟨_, List.getElem?_eq_getElem hi2⟩
      have c1 : atI ((("+" : Str) :: ws).map V.str) (0 + (i : Int) * 2) = some (.str s1) := by
        rw [show (0 + (i : Int) * 2) = ((2 * i : Nat) : Int) by omega]
        exact atI_nat (by rw [List.getElem?_map, e1]; rfl)
      have c2 : atI ((("+" : Str) :: ws).map V.str) (0 + (i : Int) * 2 + 1) = some (.str t1) := by
        rw [show (0 + (i : Int) * 2 + 1) = ((2 * i + 1 : Nat) : Int) by omega]
        exact atI_nat (by rw [List.getElem?_map, e2]; rfl)
      have ok1 : t1.length ≤ 1000 ∧ NumOk t1 := by
        have hm : t1 ∈ ws := by
          have z : ws[2 * i]? = some t1 := by simpa using e2
          exact List.mem_of_getElem? z
        exact hok t1 hm
      have hdrop := drop_cons (prs_get _ i s1 t1 e1 e2)
      rw [hdrop] at hgo
      refine ⟨_, rfl, _, rfl, _, 1, rfl, rfl, S, _, _, _, rfl, rfl, SqL.of hS, c2, _, rfl, t1, t, ns, rfl, ok1.1, ok1.2, seqT hH ht, ?_⟩
      have bad : ∀ G' : Hp, Same H G' → (match termV t1 ns with | none => none | some v => if (decide (s1 ∈ [("+" : Str), "-"]) && !(valV (usedL acc) (keyV v)).isSome) = true then sumGo ns ((prs ((("+" : Str) :: ws))).drop (i + 1)) (acc ++ [(sgn s1, v)]) else none) = none → Q .non G' := fun G' hG' z => k _ _ hG' (by
        rw [hsum, hgo]
        unfold sumGo
        rw [z]
        rfl)
      have hin : inV (.str s1) [.str "+", .str "-"] = decide (s1 ∈ [("+" : Str), "-"]) := inV_str s1 ["+", "-"]
      refine ⟨_, rfl, _, rfl, S, _, _, _, rfl, rfl, SqL.of hS, c1, (by show 2 ≤ sizeLine; decide), fun q nq => ⟨q, _, rfl, .inr (SqT.of upd_same), rfl, rfl, ?_⟩⟩
      rw [if_pos rfl, hin]
      have s1q := hH.trans (Same.new (o := .tup [.str "+", .str "-"]) nq)
      have kq := Same.new (o := .tup [.str "+", .str "-"]) nq
      refine ⟨_, rfl, ?_⟩
      by_cases hs : s1 ∈ [("+" : Str), "-"]
      · rw [decide_eq_true hs] at bad ⊢
        refine iteF ?_
        refine ⟨_, rfl, rfl, _, rfl, ?_⟩
        cases hv : termV t1 ns with
        | none =>
          rw [hv] at bad
          refine iteT ?_
          refine iteT ?_
          exact bad _ s1q rfl
        | some v =>
          rw [hv] at bad
          have it := term_is hv
          have nn : (decide (optV (some v) = V.non)) = false := decide_eq_false (by
            rcases it with ⟨x, rfl⟩ | ⟨n, rfl⟩
            · intro z; cases z
            · intro z; cases z)
          refine ifF3 nn ?_
          have hdg : DGet (upd G q (.tup [.str "+", .str "-"])) D v (valV (usedL acc) (keyV v)) := by
            have z := DGet.k (k := keyV v) (kq _ _ hD)
            rw [kV_key it] at z
            exact z
          refine ⟨_, rfl, _, rfl, D, _, rfl, hdg, _, rfl, ?_⟩
          cases hu1 : valV (usedL acc) (keyV v) with
          | some y =>
            refine iteT ?_
            refine bad _ s1q ?_
            show (if (true && !(valV (usedL acc) (keyV v)).isSome) = true then _ else none) = none
            rw [hu1]
            rfl
          | none =>
            have hgo2 : sumGo ns (prs ((("+" : Str) :: ws))) [] = sumGo ns ((prs ((("+" : Str) :: ws))).drop (i + 1)) (acc ++ [(sgn s1, v)]) := by
              rw [hgo]
              show (match termV t1 ns with | none => none | some v => if (decide (s1 ∈ [("+" : Str), "-"]) && !(valV (usedL acc) (keyV v)).isSome) = true then sumGo ns ((prs ((("+" : Str) :: ws))).drop (i + 1)) (acc ++ [(sgn s1, v)]) else none) = _
              rw [hv]
              show (if (decide (s1 ∈ [("+" : Str), "-"]) && !(valV (usedL acc) (keyV v)).isSome) = true then _ else none) = _
              rw [decide_eq_true hs, hu1]
              rfl
            refine iteF ?_
            have l1 := kq _ _ hL
            have d1 := kq _ _ hD
            have r1 := kq _ _ hS
            have t1' := hT.keep kq
            rcases it with ⟨x, rfl⟩ | ⟨n, rfl⟩
            · refine ⟨_, rfl, .str x, .ty "str", .type "str", .type "str", true, rfl, .ty _, .base (.str _), rfl, _, rfl, ?_⟩
              refine iteT ?_
              have hput : DPut (upd G q (.tup [.str "+", .str "-"])) D (.str x) (.bl true) (upd (upd G q (.tup [.str "+", .str "-"])) D (.dK (putK (usedL acc) (.inr x) (.bl true)))) := DPut.k (k := .inr x) d1 (small1000 (by have := usedL_len acc; omega))
              have eput : putK (usedL acc) (.inr x : Key) (.bl true) = usedL (acc ++ [(sgn s1, .str x)]) := by
                rw [putK_new _ (show valV (usedL acc) (.inr x : Key) = none from hu1), usedL_add]
                rfl
              rw [eput] at hput
              refine ⟨_, rfl, _, rfl, D, _, rfl, hput, ?_⟩
              have l2 : upd (upd G q (.tup [.str "+", .str "-"])) D (.dK (usedL (acc ++ [(sgn s1, .str x)]))) L = some (.lst (ts.map V.ref)) := by rw [upd_ne nLD]; exact l1
              have r2 : upd (upd G q (.tup [.str "+", .str "-"])) D (.dK (usedL (acc ++ [(sgn s1, .str x)]))) S = some (.lst (((("+" : Str) :: ws)).map V.str)) := by rw [upd_ne nSD]; exact r1
              have d2 : upd (upd G q (.tup [.str "+", .str "-"])) D (.dK (usedL (acc ++ [(sgn s1, .str x)]))) D = some (.dK (usedL (acc ++ [(sgn s1, .str x)]))) := upd_same
              have s2 : Same H (upd (upd G q (.tup [.str "+", .str "-"])) D (.dK (usedL (acc ++ [(sgn s1, .str x)])))) := Same.write s1q HD
              have t2 : TupAt (upd (upd G q (.tup [.str "+", .str "-"])) D (.dK (usedL (acc ++ [(sgn s1, .str x)])))) ts acc := tupW (fun xs z => by cases z) d1 t1'
              refine ⟨_, rfl, .inl ⟨rfl, _, SqL.of l2⟩, _, rfl, _, rfl, S, _, _, _, rfl, rfl, SqL.of r2, c1, rfl, _, rfl, ?_⟩
              by_cases e : s1 = "+"
              · refine ifT3 (decide_eq_true (congrArg V.str e)) ?_
                refine ⟨_, rfl, (by show 2 ≤ sizeLine; decide), fun p np => ?_⟩
                have kp := Same.new (o := .tup [.int (1), (.str x)]) np
                have nLp : L ≠ p := ne_of_none l2 np
                have nSp : S ≠ p := ne_of_none r2 np
                have nDp : D ≠ p := ne_of_none d2 np
                refine ⟨L, _, _, rfl, rfl, kp _ _ l2, small1000 (by rw [List.length_map, hTl]; omega), ?_⟩
                have esg : sgn s1 = 1 := by
                  unfold sgn
                  rw [if_pos e]
                refine ⟨acc ++ [(sgn s1, (.str x))], ts ++ [p], _, _, rfl, by rw [upd_ne nSL]; exact kp _ _ r2, by rw [List.map_append]; exact upd_same, by rw [upd_ne nLD.symm]; exact kp _ _ d2, ?_, Same.write (s2.trans kp) HL, hgo2, by rw [List.length_append, hacc]; rfl⟩
                refine TupAt.snoc ⟨?_, .inl ⟨_, rfl⟩⟩ ?_
                · rw [upd_ne nLp.symm, esg]
                  exact upd_same
                · exact tupW (fun xs z => by cases z) (kp _ _ l2) (t2.keep kp)
              · refine ifF3 (decide_eq_false fun z => e (V.str.inj z)) ?_
                refine ⟨1, rfl, _, rfl, (by show 2 ≤ sizeLine; decide), fun p np => ?_⟩
                have kp := Same.new (o := .tup [.int (-1), (.str x)]) np
                have nLp : L ≠ p := ne_of_none l2 np
                have nSp : S ≠ p := ne_of_none r2 np
                have nDp : D ≠ p := ne_of_none d2 np
                refine ⟨L, _, _, rfl, rfl, kp _ _ l2, small1000 (by rw [List.length_map, hTl]; omega), ?_⟩
                have esg : sgn s1 = -1 := by
                  unfold sgn
                  rw [if_neg e]
                refine ⟨acc ++ [(sgn s1, (.str x))], ts ++ [p], _, _, rfl, by rw [upd_ne nSL]; exact kp _ _ r2, by rw [List.map_append]; exact upd_same, by rw [upd_ne nLD.symm]; exact kp _ _ d2, ?_, Same.write (s2.trans kp) HL, hgo2, by rw [List.length_append, hacc]; rfl⟩
                refine TupAt.snoc ⟨?_, .inl ⟨_, rfl⟩⟩ ?_
                · rw [upd_ne nLp.symm, esg]
                  exact upd_same
                · exact tupW (fun xs z => by cases z) (kp _ _ l2) (t2.keep kp)
            · refine ⟨_, rfl, .int n, .ty "str", .type "int", .type "str", false, rfl, .ty _, .base (.int _), rfl, _, rfl, ?_⟩
              refine iteF ?_
              have l2 := l1
              have r2 := r1
              have t2 := t1'
              have s2 := s1q
              have d2 : upd G q (.tup [.str "+", .str "-"]) D = some (.dK (usedL (acc ++ [(sgn s1, .int n)]))) := by
                rw [usedL_add]
                show _ = some (HO.dK (usedL acc ++ []))
                rw [List.append_nil]
                exact d1
              refine ⟨_, rfl, .inl ⟨rfl, _, SqL.of l2⟩, _, rfl, _, rfl, S, _, _, _, rfl, rfl, SqL.of r2, c1, rfl, _, rfl, ?_⟩
              by_cases e : s1 = "+"
              · refine ifT3 (decide_eq_true (congrArg V.str e)) ?_
                refine ⟨_, rfl, (by show 2 ≤ sizeLine; decide), fun p np => ?_⟩
                have kp := Same.new (o := .tup [.int (1), (.int n)]) np
                have nLp : L ≠ p := ne_of_none l2 np
                have nSp : S ≠ p := ne_of_none r2 np
                have nDp : D ≠ p := ne_of_none d2 np
                refine ⟨L, _, _, rfl, rfl, kp _ _ l2, small1000 (by rw [List.length_map, hTl]; omega), ?_⟩
                have esg : sgn s1 = 1 := by
                  unfold sgn
                  rw [if_pos e]
                refine ⟨acc ++ [(sgn s1, (.int n))], ts ++ [p], _, _, rfl, by rw [upd_ne nSL]; exact kp _ _ r2, by rw [List.map_append]; exact upd_same, by rw [upd_ne nLD.symm]; exact kp _ _ d2, ?_, Same.write (s2.trans kp) HL, hgo2, by rw [List.length_append, hacc]; rfl⟩
                refine TupAt.snoc ⟨?_, .inr ⟨_, rfl⟩⟩ ?_
                · rw [upd_ne nLp.symm, esg]
                  exact upd_same
                · exact tupW (fun xs z => by cases z) (kp _ _ l2) (t2.keep kp)
              · refine ifF3 (decide_eq_false fun z => e (V.str.inj z)) ?_
                refine ⟨1, rfl, _, rfl, (by show 2 ≤ sizeLine; decide), fun p np => ?_⟩
                have kp := Same.new (o := .tup [.int (-1), (.int n)]) np
                have nLp : L ≠ p := ne_of_none l2 np
                have nSp : S ≠ p := ne_of_none r2 np
                have nDp : D ≠ p := ne_of_none d2 np
                refine ⟨L, _, _, rfl, rfl, kp _ _ l2, small1000 (by rw [List.length_map, hTl]; omega), ?_⟩
                have esg : sgn s1 = -1 := by
                  unfold sgn
                  rw [if_neg e]
                refine ⟨acc ++ [(sgn s1, (.int n))], ts ++ [p], _, _, rfl, by rw [upd_ne nSL]; exact kp _ _ r2, by rw [List.map_append]; exact upd_same, by rw [upd_ne nLD.symm]; exact kp _ _ d2, ?_, Same.write (s2.trans kp) HL, hgo2, by rw [List.length_append, hacc]; rfl⟩
                refine TupAt.snoc ⟨?_, .inr ⟨_, rfl⟩⟩ ?_
                · rw [upd_ne nLp.symm, esg]
                  exact upd_same
                · exact tupW (fun xs z => by cases z) (kp _ _ l2) (t2.keep kp)
      · rw [decide_eq_false hs] at bad ⊢
        refine iteT ?_
        refine iteT ?_
        refine bad _ s1q ?_
        cases termV t1 ns <;> rfl
    · rintro σ G ⟨acc, ts, v5, v6, rfl, hS, hL, hD, hT, hH, hgo, hacc⟩
      refine ⟨_, rfl, L, _, rfl, .inl ⟨SqL.of hL, fun q nq => ?_⟩⟩
      have hq := Same.new (o := .tup (ts.map V.ref)) nq
      refine k _ _ (hH.trans hq) ?_
      rw [hsum, hgo, List.drop_eq_nil_of_le (by rw [prs_len, List.length_cons]; exact Nat.le_refl _)]
      exact ⟨(by intro z; cases z), .tup (SqT.of upd_same) ((hT.keep hq).dp)⟩
end
end K14

set_option Elab.async false
set_option linter.all false
set_option maxRecDepth 100000
set_option maxHeartbeats 8000000
/-! Texts, c: comparisons, parts -/
namespace K14
open PySem L2
def ResD (K : PySem.W.Frag) (H : Hp) (v : V) : Option PyData → Prop
  | none => v = .non
  | some d => v ≠ .non ∧ TDp K H v d
def cmps : List Str := ["<", "<=", "is"]
def compM (ws ns : List Str) : Option PyData := match ws with
  | [x, c, y] => if c ∈ cmps ∧ x ≠ y then (match termV x ns, termV y ns with
    | some u, some v => some (.tuple [.str c, datV u, datV v])
    | _, _ => none) else none
  | _ => none
def spComp (K : PySem.W.Frag) : Sp := fun vs H Q _ => ∃ (a t : Addr) (ws ns : List Str), vs = [.ref a, .ref t] ∧ SqL K H a (ws.map V.str) ∧ SqT K H t (ns.map V.str) ∧ (∀ w ∈ ws, w.length ≤ 1000 ∧ NumOk w) ∧
  ∀ (v : V) (H' : Hp), Same H H' → ResD K H' v (compM ws ns) → Q v H'
/-- words, parted where «and» stands: what is done, what is open -/
def partStep (p : List (List Str) × List Str) (w : Str) : List (List Str) × List Str := if w = "and" then (p.1 ++ [p.2], []) else (p.1, p.2 ++ [w])
def partGo (ws : List Str) : List (List Str) × List Str := ws.foldl partStep ([], [])
def partM (ws : List Str) : List (List Str) := (partGo ws).1 ++ [(partGo ws).2]
/-- lists of words stand -/
def ListsAt (H : Hp) : List Addr → List (List Str) → Prop := Paired fun r l => H r = some (.lst (l.map V.str))
theorem ListsAt.keep {H H' : Hp} (s : Same H H') : ∀ {rs : List Addr} {ls : List (List Str)}, ListsAt H rs ls → ListsAt H' rs ls
  | _, _, .nil => .nil
  | _, _, .cons h r => .cons (s _ _ h) (ListsAt.keep s r)
theorem ListsAt.write {H : Hp} {a : Addr} {o : HO} : ∀ {rs : List Addr} {ls : List (List Str)}, ListsAt H rs ls → a ∉ rs → ListsAt (upd H a o) rs ls
  | _, _, .nil, _ => .nil
  | _, _, .cons h r, ha => .cons (by rw [upd_ne (fun z => ha (by rw [z]; exact List.mem_cons_self ..))]; exact h) (ListsAt.write r fun z => ha (List.mem_cons_of_mem _ z))
theorem ListsAt.snoc {H : Hp} {r : Addr} {l : List Str} (h : H r = some (.lst (l.map V.str))) : ∀ {rs : List Addr} {ls : List (List Str)}, ListsAt H rs ls → ListsAt H (rs ++ [r]) (ls ++ [l])
  | _, _, .nil => .cons h .nil
  | _, _, .cons h1 t => .cons h1 (ListsAt.snoc h t)
theorem ListsAt.get {H : Hp} {r : Addr} : ∀ {rs : List Addr} {ls : List (List Str)} {i : Nat}, ListsAt H rs ls → rs[i]? = some r → ∃ l, ls[i]? = some l ∧ H r = some (.lst (l.map V.str))
  | _, _, i, .nil, e => by simp at e
  | _, _, 0, .cons h t, e => by
    simp at e
    subst e
    exact ⟨_, by simp, h⟩
  | _, _, i + 1, .cons h t, e => by
    simp only [List.getElem?_cons_succ] at e ⊢
    exact ListsAt.get t e
theorem ListsAt.there {H : Hp} {a : Addr} : ∀ {rs : List Addr} {ls : List (List Str)}, ListsAt H rs ls → a ∈ rs → ∃ o, H a = some o
  | _, _, .nil, z => nomatch z
  | _, _, .cons h t, z => by
    rcases List.mem_cons.mp z with e | e
    · exact ⟨_, by rw [e]; exact h⟩
    · exact ListsAt.there t e
def spParted (K : PySem.W.Frag) : Sp := fun vs H Q _ => ∃ (a : Addr) (ws : List Str), vs = [.ref a] ∧ SqL K H a (ws.map V.str) ∧ ws.length ≤ 1000 ∧
  ∀ (p : Addr) (rs : List Addr) (H' : Hp), Same H H' → H' p = some (.lst (rs.map V.ref)) → ListsAt H' rs (partM ws) → Q (.ref p) H'
structure TxtT (K : PySem.W.Frag) (mg : Str → Option Value) : Prop where
  comp : ∃ c, mg "COMPARISONS" = some (.ref c) ∧ ∀ H, SqT K H c (cmps.map V.str)
theorem take_more {α : Type} : ∀ {l : List α} {i : Nat} {x : α}, l[i]? = some x → l.take (i + 1) = l.take i ++ [x]
  | [], i, x, h => by simp at h
  | a :: l, 0, x, h => by
    have e : a = x := Option.some.inj h
    subst e
    rfl
  | a :: l, i + 1, x, h => by
    have ih := take_more (l := l) (i := i) (x := x) h
    show a :: l.take (i + 1) = a :: l.take i ++ [x]
    rw [ih]
    rfl
section
variable {P : Program} {w : World} {K : PySem.W.Frag} {mg : Str → Option Value} {base : Heap}
theorem scComp : FnScope ["words", "names", "left", "right"] ["words", "names"] (defScope sComp) := ⟨rfl, rfl, rfl, by decide +kernel, rfl, by decide +kernel, by decide +kernel⟩
theorem ok_comp {f fT : Addr} {fd fdT : FuncData} (F : Fun K "comparison_in" "comparison_in" sComp f fd) (T : TxtN mg) (U : TxtT K mg) (GT : FnOk P w K mg base CX0 2 fT fdT ["word", "names"] (spTerm K)) (kT : PySem.W.keepIn K (.ref fT) = true) (bT : Binds K fdT ["word", "names"] []) (gT : mg "term_in" = some (.ref fT)) : FnOk P w K mg base CX0 3 f fd ["words", "names"] (spComp K) := by
  obtain ⟨c, hc, hC⟩ := U.comp
  refine F.ok scComp (fun vs H Q E h => ?_) (fun cdv A outer s H vs Q E hr h => ?_)
  · obtain ⟨a, t, ws, ns, rfl, _⟩ := h
    rfl
  · obtain ⟨a, t, ws, ns, rfl, ha, ht, hok, k⟩ := h
    refine ⟨_, pss_cons (ps_if (PW.pt (pw_or (pt_cmpR op_ne (pe_callB call_len_seq (by rfl) T.len PySem.boot_len (pa_cons (pv 0) pa_nil)) pe_int (nomark _)) (pw_or (pt_cmpR op_notIn_seq (pe_ix ix_list (pv 0) pe_int (fun _ _ => rfl)) (pe_glob (v := .ref c) (by rfl) hc rfl) (by rfl)) (pw_or1 (pt_cmpR op_eq (pe_ix ix_list (pv 0) pe_int (fun _ _ => rfl)) (pe_ix ix_list (pv 0) pe_int (fun _ _ => rfl)) (nomark _)))))) (pss_one (ps_ret pe_non)) pss_nil)
      (pss_cons (ps_set (i := 2) scComp.nd rfl (Or.inl rfl) (pe_call GT hr rfl gT kT bT .nil pass0 (pa_cons (pe_ix ix_list (pv 0) pe_int (fun _ _ => rfl)) (pa_cons (pv 1) pa_nil))))
      (pss_cons (ps_set (i := 3) scComp.nd rfl (Or.inl rfl) (pe_call GT hr rfl gT kT bT .nil pass0 (pa_cons (pe_ix ix_list (pv 0) pe_int (fun _ _ => rfl)) (pa_cons (pv 1) pa_nil))))
      (pss_cons (ps_if (PW.pt (pw_or (pt_cmpR op_isN (pv 2) pe_non (nomark _)) (pw_or1 (pt_cmpR op_isN (pv 3) pe_non (nomark _))))) (pss_one (ps_ret pe_non)) pss_nil)
      (pss_one (ps_ret (pe_tup (pa_cons (pe_ix ix_list (pv 0) pe_int (fun _ _ => rfl)) (pa_cons (pv 2) (pa_cons (pv 3) pa_nil))))))))), ?_⟩
    have out : compM ws ns = none → Q .non H := fun z => k .non H (Same.refl H) (by rw [z]; rfl)
    refine ⟨_, rfl, a, _, rfl, .inl ha, rfl, _, rfl, ?_⟩
    refine ite2 (fun h3 => ?_) (fun h3 => ?_)
    · refine iteT ?_
      refine out ?_
      unfold compM
      split
      · exfalso
        simp at h3
      · rfl
    have hl3 : ws.length = 3 := by
      have z := h3
      simp at z
      have z2 := z
      omega
    obtain ⟨x, c', y, rfl⟩ : ∃ x c' y, ws = [x, c', y] := by
      match ws, hl3 with
      | [x, c', y], _ => exact ⟨x, c', y, rfl⟩
    have i0 : atI ([x, c', y].map V.str) 0 = some (.str x) := atI_nat (j := 0) rfl
    have i1 : atI ([x, c', y].map V.str) 1 = some (.str c') := atI_nat (j := 1) rfl
    have i2 : atI ([x, c', y].map V.str) 2 = some (.str y) := atI_nat (j := 2) rfl
    refine ⟨_, rfl, a, _, 1, _, rfl, rfl, ha, i1, c, _, rfl, .inr (hC _), rfl, flat_str cmps, ?_⟩
    rw [if_pos rfl, inV_str]
    refine ⟨_, rfl, ?_⟩
    by_cases hcm : c' ∈ cmps
    case neg =>
      rw [decide_eq_false hcm]
      refine iteT ?_
      refine iteT ?_
      refine out ?_
      show (if c' ∈ cmps ∧ x ≠ y then _ else none) = none
      rw [if_neg fun z => hcm z.1]
    rw [decide_eq_true hcm]
    refine iteF ?_
    refine ⟨_, rfl, a, _, 0, _, rfl, rfl, ha, i0, _, rfl, a, _, 2, _, rfl, rfl, ha, i2, rfl, _, rfl, ?_⟩
    refine ite2 (fun hxy => ?_) (fun hxy => ?_)
    · refine out ?_
      have e : x = y := V.str.inj (of_decide_eq_true hxy)
      show (if c' ∈ cmps ∧ x ≠ y then _ else none) = none
      rw [if_neg fun z => z.2 e]
    have hxy' : x ≠ y := fun e => hxy (decide_eq_true (congrArg V.str e))
    have hM : compM [x, c', y] ns = (match termV x ns, termV y ns with
      | some u, some v => some (.tuple [.str c', datV u, datV v])
      | _, _ => none) := by
      show (if c' ∈ cmps ∧ x ≠ y then _ else none) = _
      rw [if_pos ⟨hcm, hxy'⟩]
    have ox := hok x (by simp)
    have oy := hok y (by simp)
    refine ⟨_, rfl, a, _, 0, _, rfl, rfl, ha, i0, _, rfl, x, t, ns, rfl, ox.1, ox.2, ht, ?_⟩
    refine ⟨_, rfl, a, _, 2, _, rfl, rfl, ha, i2, _, rfl, y, t, ns, rfl, oy.1, oy.2, ht, ?_⟩
    refine ⟨_, rfl, rfl, _, rfl, ?_⟩
    cases hvx : termV x ns with
    | none =>
      refine iteT ?_
      refine iteT ?_
      refine out ?_
      rw [hM, hvx]
    | some u =>
      have itu := term_is hvx
      have nu : decide (optV (some u) = V.non) = false := decide_eq_false (by
        rcases itu with ⟨x, rfl⟩ | ⟨n, rfl⟩
        · intro z; cases z
        · intro z; cases z)
      refine ifF3 nu ?_
      refine ⟨_, rfl, rfl, _, rfl, ?_⟩
      cases hvy : termV y ns with
      | none =>
        refine iteT ?_
        refine out ?_
        rw [hM, hvx, hvy]
      | some v =>
        have itv := term_is hvy
        have nv : decide (optV (some v) = V.non) = false := decide_eq_false (by
          rcases itv with ⟨x, rfl⟩ | ⟨n, rfl⟩
          · intro z; cases z
          · intro z; cases z)
        refine ifF3 nv ?_
        refine ⟨_, rfl, a, _, 1, _, rfl, rfl, ha, i1, _, rfl, _, rfl, (by show 3 ≤ sizeLine; decide), fun p np => ?_⟩
        refine k _ _ (Same.new np) ?_
        rw [hM, hvx, hvy]
        exact ⟨(by intro z; cases z), .tup (SqT.of upd_same) (.cons (.str _) (.cons (dat_dp itu) (.cons (dat_dp itv) .nil)))⟩
theorem scParted : FnScope ["words", "parts", "word"] ["words"] (defScope sPart) := ⟨rfl, rfl, rfl, by decide +kernel, rfl, by decide +kernel, by decide +kernel⟩
theorem ok_parted {f : Addr} {fd : FuncData} (F : Fun K "parted" "parted" sPart f fd) : FnOk P w K mg base CX0 1 f fd ["words"] (spParted K) := by
  refine F.ok scParted (fun vs H Q E h => ?_) (fun cdv A outer s H vs Q E hr h => ?_)
  · obtain ⟨a, ws, rfl, _⟩ := h
    rfl
  · obtain ⟨a, ws, rfl, ha, hlen, k⟩ := h
    refine ⟨_, pss_cons (ps_set (i := 1) scParted.nd rfl (Or.inl rfl) (pe_lst (pa_cons (pe_lst pa_nil) pa_nil)))
      (pss_cons (ps_for PassesOwn.never rfl (pi_list (pv 0)) (pg_name (i := 2) scParted.nd rfl (Or.inl rfl))
        (pss_one (ps_if (pt_cmpR op_eq (pv 2) pe_str (nomark _))
          (pss_one (ps_expr (pe_bm PySem.F.plainAttrs_list PySem.F.slot_list_append PySem.F.type_list_append mt_append (pv 1) (pa_cons (pe_lst pa_nil) pa_nil))))
          (pss_one (ps_expr (pe_bm PySem.F.plainAttrs_list PySem.F.slot_list_append PySem.F.type_list_append mt_append (pe_ix ix_list (pv 1) (pe_un un_neg pe_int) (fun _ _ => rfl)) (pa_cons (pv 2) pa_nil)))))))
      (pss_one (ps_ret (pv 1)))), ?_⟩
    refine ⟨(by show 0 ≤ sizeLine; decide), fun l0 n0 => ⟨(by show 1 ≤ sizeLine; decide), fun p np => ?_⟩⟩
    have s0 := Same.new (o := .lst []) n0
    have s1 := s0.trans (Same.new (o := .lst [.ref l0]) np)
    have npl : p ≠ l0 := fun e => by rw [e, upd_same] at np; cases np
    have Hp0 : H p = none := s0.free np
    refine ⟨_, rfl, a, rfl, ⟨_, s1.seq ha⟩, for_list (K := K) (a := a) (xs := ws.map V.str)
      (fun i σ G => ∃ (ds : List Addr) (r : Addr) (v : Option V), σ = [some (.ref a), some (.ref p), v] ∧ Same H G ∧ G p = some (.lst ((ds ++ [r]).map V.ref)) ∧ ListsAt G ds (partGo (ws.take i)).1 ∧ G r = some (.lst ((partGo (ws.take i)).2.map V.str)) ∧ r ∉ ds ∧ p ∉ ds ∧ p ≠ r ∧ H r = none ∧ ds.length + (partGo (ws.take i)).2.length ≤ i)
      ⟨[], l0, none, rfl, s1, upd_same, .nil, by rw [upd_ne npl.symm]; exact upd_same, by simp, by simp, npl, n0, by simp [partGo]⟩ (fun i σ G _ ⟨_, _, _, _, e, _⟩ => e.seq ha) ?_ ?_⟩
    · rintro i y σ G hi ⟨ds, r, v, rfl, hH, hp, hds, hr', rds, pds, pr, Hr, hcnt⟩
      obtain ⟨x, hx, rfl⟩ : ∃ x, ws[i]? = some x ∧ y = V.str x := by
        rw [List.getElem?_map] at hi
        cases e : ws[i]? with
        | none => rw [e] at hi; cases hi
        | some x => rw [e] at hi; exact ⟨x, rfl, (Option.some.inj hi).symm⟩
      have hil : i < ws.length := (List.getElem?_eq_some_iff.mp hx).1
      have hgo : partGo (ws.take (i + 1)) = partStep (partGo (ws.take i)) x := by
        unfold partGo
        rw [take_more hx, List.foldl_append]
        rfl
      refine ⟨_, rfl, rfl, _, rfl, ?_⟩
      refine ite2 (fun hand => ?_) (fun hand => ?_)
      · have e : x = "and" := V.str.inj (of_decide_eq_true hand)
        have hst : partStep (partGo (ws.take i)) x = ((partGo (ws.take i)).1 ++ [(partGo (ws.take i)).2], []) := if_pos e
        refine ⟨_, rfl, .inl ⟨rfl, _, SqL.of hp⟩, (by show 0 ≤ sizeLine; decide), fun q nq => ?_⟩
        have sq := Same.new (o := .lst []) nq
        have Hq : H q = none := hH.free nq
        have npq : p ≠ q := ne_of_none hp nq
        have nrq : r ≠ q := ne_of_none hr' nq
        refine ⟨p, _, _, rfl, rfl, sq _ _ hp, small1000 (by rw [List.length_map, List.length_append]; show ds.length + 1 ≤ 1000; omega), ?_⟩
        refine ⟨ds ++ [r], q, _, rfl, Same.write (hH.trans sq) Hp0, ?_, ?_, ?_, ?_, ?_, npq, Hq, ?_⟩
        · rw [List.map_append (l₂ := [q])]
          exact upd_same
        · rw [hgo, hst]
          exact ((ListsAt.snoc (sq _ _ hr') (hds.keep sq))).write (by
            intro z
            rcases List.mem_append.mp z with z | z
            · exact pds z
            · exact pr (List.mem_singleton.mp z))
        · rw [hgo, hst, upd_ne npq.symm]
          exact upd_same
        · intro z
          rcases List.mem_append.mp z with z | z
          · obtain ⟨o, ho⟩ := hds.there z
            rw [nq] at ho
            cases ho
          · exact nrq (List.mem_singleton.mp z).symm
        · intro z
          rcases List.mem_append.mp z with z | z
          · exact pds z
          · exact pr (List.mem_singleton.mp z)
        · rw [hgo, hst, List.length_append]
          show ds.length + 1 + 0 ≤ i + 1
          omega
      · have e : ¬ x = "and" := fun z => hand (decide_eq_true (congrArg V.str z))
        have hst : partStep (partGo (ws.take i)) x = ((partGo (ws.take i)).1, (partGo (ws.take i)).2 ++ [x]) := if_neg e
        refine ⟨_, rfl, 1, rfl, p, _, -1, .ref r, rfl, rfl, SqL.of hp, ?_, ?_⟩
        · rw [List.map_append]
          exact atI_last ..
        refine ⟨.inl ⟨rfl, _, SqL.of hr'⟩, _, rfl, r, _, _, rfl, rfl, hr', small1000 (by rw [List.length_map]; omega), ?_⟩
        refine ⟨ds, r, _, rfl, Same.write hH Hr, by rw [upd_ne pr]; exact hp, ?_, ?_, rds, pds, pr, Hr, ?_⟩
        · rw [hgo, hst]
          exact hds.write rds
        · rw [hgo, hst, List.map_append]
          exact upd_same
        · rw [hgo, hst, List.length_append]
          show ds.length + ((partGo (ws.take i)).2.length + 1) ≤ i + 1
          omega
    · rintro σ G ⟨ds, r, v, rfl, hH, hp, hds, hr', rds, pds, pr, Hr, hcnt⟩
      rw [List.length_map, List.take_length] at hds hr'
      refine ⟨_, rfl, k p (ds ++ [r]) G hH hp ?_⟩
      unfold partM
      exact ListsAt.snoc hr' hds
end
end K14

set_option Elab.async false
set_option linter.all false
set_option maxRecDepth 100000
set_option maxHeartbeats 8000000
/-! Texts, d: tests -/
namespace K14
open PySem L2
/-- a word as it may stand in a text -/
structure WOk (w : Str) : Prop where
  len : w.length ≤ 1000
  num : NumOk w
  sig : PyData.canLay0 (.str w) = true
def WsOk (ws : List Str) : Prop := ∀ w ∈ ws, WOk w
theorem WsOk.two {ws : List Str} (h : WsOk ws) : ∀ w ∈ ws, w.length ≤ 1000 ∧ NumOk w := fun w hw => ⟨(h w hw).len, (h w hw).num⟩
theorem layAll : ∀ {ws : List Str}, WsOk ws → PyData.canLayAll0 (ws.map PyData.str) = true
  | [], _ => rfl
  | w :: ws, h => by
    rw [List.map_cons]
    rw [PyData.canLayAll0, Bool.and_eq_true]
    exact ⟨(h w (List.mem_cons_self ..)).sig, layAll fun x hx => h x (List.mem_cons_of_mem _ hx)⟩
theorem depAll : ∀ ws : List Str, PyData.depthAll (ws.map PyData.str) = 0
  | [] => rfl
  | w :: ws => by
    rw [List.map_cons]
    simp only [PyData.depthAll, PyData.depth, depAll ws]
    decide
theorem shapedWs {ws : List Str} (h : WsOk ws) : SeqAt.shaped (.list (ws.map PyData.str)) = true := by
  unfold SeqAt.shaped
  have h1 : (PyData.list (ws.map PyData.str)).canLay0 = true := by
    simp only [PyData.canLay0]
    exact layAll h
  have h2 : (PyData.list (ws.map PyData.str)).depth ≤ 64 := by
    simp only [PyData.depth, depAll]
    decide
  rw [h1, decide_eq_true h2]
  rfl
theorem eqvWs : ∀ (ws us : List Str), PyData.eqvAll (ws.map PyData.str) (us.map PyData.str) = decide (ws = us)
  | [], [] => rfl
  | [], u :: us => by simp [PyData.eqvAll]
  | w :: ws, [] => by simp [PyData.eqvAll]
  | w :: ws, u :: us => by
    rw [List.map_cons, List.map_cons, PyData.eqvAll, eqvWs ws us]
    by_cases e : w = u
    · subst e
      by_cases e2 : ws = us
      · subst e2
        simp [PyData.eqv]
      · simp [PyData.eqv, e2]
    · simp [PyData.eqv, e]
theorem eqvL (ws us : List Str) : PyData.eqv (.list (ws.map PyData.str)) (.list (us.map PyData.str)) = decide (ws = us) := by
  rw [PyData.eqv]
  exact eqvWs ws us
theorem dpWs {K : PySem.W.Frag} {H : Hp} : ∀ ws : List Str, DpAll K H (ws.map V.str) (ws.map PyData.str)
  | [] => .nil
  | w :: ws => .cons (.str w) (dpWs ws)
theorem cut_hi (ws : List Str) (n : Nat) : cutV (ws.map V.str) none (some (n : Int)) = (ws.take n).map V.str := by
  unfold cutV
  rw [HT.sIx_nat, HT.sIx_none, List.length_map, Nat.sub_zero, List.drop_zero, List.map_take]
  rcases Nat.le_total n ws.length with h | h
  · rw [Nat.min_eq_left h]
  · rw [Nat.min_eq_right h, List.take_of_length_le (by rw [List.length_map]; exact Nat.le_refl _), List.take_of_length_le (by rw [List.length_map]; exact h)]
theorem cut_lo (ws : List Str) (n : Nat) : cutV (ws.map V.str) (some (n : Int)) none = (ws.drop n).map V.str := by
  unfold cutV
  rw [HT.sIx_nat, HT.sIx_none, List.length_map, List.map_drop]
  rw [List.take_of_length_le (by rw [List.length_drop, List.length_map]; exact Nat.le_refl _)]
  rcases Nat.le_total n ws.length with h | h
  · rw [Nat.min_eq_left h]
  · rw [Nat.min_eq_right h, List.drop_of_length_le (by rw [List.length_map]; exact Nat.le_refl _), List.drop_of_length_le (by rw [List.length_map]; exact h)]
/-! ### the tests -/
/-- one part of a test -/
def partD (pm : List Str → Option PyData) (part : List Str) : Option PyData := (pm (if part.take 1 ≠ [("not" : Str)] then part else part.drop 1)).map fun d => .tuple [.bool (decide (part.take 1 ≠ [("not" : Str)])), d]
def partsGo (pm : List Str → Option PyData) : List (List Str) → List PyData → Option (List PyData)
  | [], acc => some acc
  | p :: r, acc => match partD pm p with
    | none => none
    | some d => partsGo pm r (acc ++ [d])
def testM (pm : List Str → Option PyData) (ws : List Str) : Option PyData := if 4 < (partM ws).length then none else (partsGo pm (partM ws) []).map .tuple
def spPartIn (K : PySem.W.Frag) (kinds : List Str) (pm : Str → List Str → Option PyData) : Sp := fun vs H Q _ => ∃ (a : Addr) (ws : List Str) (kd : Str), vs = [.ref a, .str kd] ∧ kd ∈ kinds ∧ SqL K H a (ws.map V.str) ∧ WsOk ws ∧ ws.length ≤ 1000 ∧
  ∀ (v : V) (H' : Hp), Same H H' → ResD K H' v (pm kd ws) → Q v H'
def spTestIn (K : PySem.W.Frag) (fP : Addr) (kinds : List Str) (pm : Str → List Str → Option PyData) : Sp := fun vs H Q _ => ∃ (a : Addr) (ws : List Str) (kd : Str), vs = [.ref a, .ref fP, .str kd] ∧ kd ∈ kinds ∧ SqL K H a (ws.map V.str) ∧ WsOk ws ∧ ws.length ≤ 1000 ∧
  ∀ (v : V) (H' : Hp), Same H H' → ResD K H' v (testM (pm kd) ws) → Q v H'
theorem partGo_mem (ws : List Str) : ∀ (p : List (List Str) × List Str), (∀ l ∈ p.1, ∀ w ∈ l, WOk w) → (∀ w ∈ p.2, WOk w) → WsOk ws → (∀ l ∈ (ws.foldl partStep p).1, ∀ w ∈ l, WOk w) ∧ ∀ w ∈ (ws.foldl partStep p).2, WOk w := by
  induction ws with
  | nil => intro p h1 h2 _; exact ⟨h1, h2⟩
  | cons w ws ih =>
    intro p h1 h2 hw
    rw [List.foldl_cons]
    refine ih _ ?_ ?_ fun x hx => hw x (List.mem_cons_of_mem _ hx)
    · unfold partStep
      split
      · intro l hl
        rcases List.mem_append.mp hl with z | z
        · exact h1 l z
        · rw [List.mem_singleton.mp z]
          exact h2
      · exact h1
    · unfold partStep
      split
      · intro x hx
        cases hx
      · intro x hx
        rcases List.mem_append.mp hx with z | z
        · exact h2 x z
        · rw [List.mem_singleton.mp z]
          exact hw w (List.mem_cons_self ..)
theorem partM_ok {ws : List Str} (h : WsOk ws) : ∀ l ∈ partM ws, WsOk l := by
  obtain ⟨h1, h2⟩ := partGo_mem ws ([], []) (by simp) (by simp) h
  intro l hl
  unfold partM at hl
  rcases List.mem_append.mp hl with z | z
  · exact h1 l z
  · rw [List.mem_singleton.mp z]
    exact h2
theorem partGo_len (ws : List Str) : ∀ (p : List (List Str) × List Str) (n : Nat), (∀ l ∈ p.1, l.length ≤ n) → p.2.length ≤ n → (∀ l ∈ (ws.foldl partStep p).1, l.length ≤ n + ws.length) ∧ (ws.foldl partStep p).2.length ≤ n + ws.length := by
  induction ws with
  | nil => intro p n h1 h2; exact ⟨h1, h2⟩
  | cons w ws ih =>
    intro p n h1 h2
    rw [List.foldl_cons]
    have := ih (partStep p w) (n + 1) (by
      unfold partStep
      split
      · intro l hl
        rcases List.mem_append.mp hl with z | z
        · exact Nat.le_succ_of_le (h1 l z)
        · rw [List.mem_singleton.mp z]
          exact Nat.le_succ_of_le h2
      · intro l hl
        exact Nat.le_succ_of_le (h1 l hl)) (by
      unfold partStep
      split
      · exact Nat.zero_le _
      · rw [List.length_append]
        exact Nat.succ_le_succ h2)
    rw [List.length_cons]
    refine ⟨fun l hl => by have := this.1 l hl; omega, by have := this.2; omega⟩
theorem partM_len {ws : List Str} : ∀ l ∈ partM ws, l.length ≤ ws.length := by
  obtain ⟨h1, h2⟩ := partGo_len ws ([], []) 0 (by simp) (by simp)
  intro l hl
  unfold partM at hl
  rcases List.mem_append.mp hl with z | z
  · have := h1 l z
    unfold partGo at z
    omega
  · rw [List.mem_singleton.mp z]
    unfold partGo
    omega
section
variable {P : Program} {w : World} {K : PySem.W.Frag} {mg : Str → Option Value} {base : Heap}
theorem scTest : FnScope ["words", "part_in", "kind", "parts", "test", "part", "wanted", "read"] ["words", "part_in", "kind"] (defScope sTest) := ⟨rfl, rfl, rfl, by decide +kernel, rfl, by decide +kernel, by decide +kernel⟩
theorem ok_test {f fP fD : Addr} {fd fdP fdD : FuncData} {k : Nat} {kinds : List Str} {pm : Str → List Str → Option PyData} (F : Fun K "test_in" "test_in" sTest f fd) (T : TxtN mg)
    (GD : FnOk P w K mg base CX0 1 fD fdD ["words"] (spParted K)) (kD : PySem.W.keepIn K (.ref fD) = true) (bD : Binds K fdD ["words"] []) (gD : mg "parted" = some (.ref fD))
    (hk : 1 ≤ k) (GP : FnOk P w K mg base CX0 k fP fdP ["words", "kind"] (spPartIn K kinds pm)) (kP : PySem.W.keepIn K (.ref fP) = true) (bP : Binds K fdP ["words", "kind"] []) : FnOk P w K mg base CX0 (k + 1) f fd ["words", "part_in", "kind"] (spTestIn K fP kinds pm) := by
  obtain ⟨tk, hparts⟩ := T.parts
  refine F.ok scTest (fun vs H Q E h => ?_) (fun cdv A outer s H vs Q E hr h => ?_)
  · obtain ⟨a, ws, kd, rfl, _⟩ := h
    rfl
  · obtain ⟨a, ws, kd, rfl, hkd, ha, hok, hlen, kk⟩ := h
    have hr1 : Room 1 _ := hr.mono hk
    refine ⟨_, pss_cons (ps_set (i := 3) scTest.nd rfl (Or.inl rfl) (pe_call GD hr1 rfl gD kD bD .nil pass0 (pa_cons (pv 0) pa_nil)))
      (pss_cons (ps_if (pt_cmpR op_gt (pe_callB call_len_seq (by rfl) T.len PySem.boot_len (pa_cons (pv 3) pa_nil)) (pe_glob (v := .int 4) (by rfl) hparts ⟨tk, rfl⟩) (nomark _)) (pss_one (ps_ret pe_non)) pss_nil)
      (pss_cons (ps_set (i := 4) scTest.nd rfl (Or.inl rfl) (pe_lst pa_nil))
      (pss_cons (ps_for PassesOwn.never rfl (pi_list (pv 3)) (pg_name (i := 5) scTest.nd rfl (Or.inl rfl))
        (pss_cons (ps_set (i := 6) scTest.nd rfl (Or.inl rfl) (pe_cmpR (op_neD hr.units) (pe_slice sl_list (pv 5) po_none (po_some pe_int)) (pe_lst (pa_cons pe_str pa_nil)) (nomark _)))
        (pss_cons (ps_set (i := 7) scTest.nd rfl (Or.inl rfl) (pe_callL (i := 1) GP hr rfl (Or.inl rfl) kP bP .nil pass0 (pa_cons (pe_ifExp (pt_val (pv 6)) (pv 5) (pe_slice sl_list (pv 5) (po_some pe_int) po_none)) (pa_cons (pv 2) pa_nil))))
        (pss_cons (ps_if (pt_cmpR op_isN (pv 7) pe_non (nomark _)) (pss_one (ps_ret pe_non)) pss_nil)
        (pss_one (ps_expr (pe_bm PySem.F.plainAttrs_list PySem.F.slot_list_append PySem.F.type_list_append mt_append (pv 4) (pa_cons (pe_tup (pa_cons (pv 6) (pa_cons (pv 7) pa_nil))) pa_nil))))))))
      (pss_one (ps_ret (pe_callTy call_tuple_of (by rfl) T.tuple (by decide +kernel) (pa_cons (pv 4) pa_nil))))))), ?_⟩
    refine ⟨_, rfl, a, ws, rfl, ha, hlen, fun p rs H1 s1 hp hrs => ?_⟩
    have hn : rs.length = (partM ws).length := Paired.length hrs
    refine ⟨_, rfl, p, _, rfl, .inl (SqL.of hp), _, _, rfl, rfl, _, rfl, ?_⟩
    refine ite2 (fun h4 => ?_) (fun h4 => ?_)
    · have h4' := of_decide_eq_true h4
      rw [List.length_map, hn] at h4'
      refine kk _ _ s1 ?_
      unfold testM
      rw [if_pos (by omega)]
      rfl
    have h4' : ¬ 4 < (partM ws).length := fun z => h4 (decide_eq_true (by rw [List.length_map, hn]; omega))
    have hM : testM (pm kd) ws = (partsGo (pm kd) (partM ws) []).map .tuple := by
      unfold testM
      rw [if_neg h4']
    refine ⟨(by show 0 ≤ sizeLine; decide), fun T0 nT => ?_⟩
    have sT := Same.new (o := .lst []) nT
    have T0p : p ≠ T0 := ne_of_none hp nT
    have H1T : H1 T0 = none := nT
    refine ⟨_, rfl, p, rfl, ⟨_, SqL.of (sT _ _ hp)⟩, for_list (K := K) (a := p) (xs := rs.map V.ref)
      (fun i σ G => ∃ (acc : List PyData) (ts : List Addr) (v5 v6 v7 : Option V), σ = [some (.ref a), some (.ref fP), some (.str kd), some (.ref p), some (.ref T0), v5, v6, v7] ∧ Same H1 G ∧ G T0 = some (.lst (ts.map V.ref)) ∧ TDpAll K G (ts.map V.ref) acc ∧ partsGo (pm kd) (partM ws) [] = partsGo (pm kd) ((partM ws).drop i) acc ∧ acc.length = i)
      ⟨[], [], none, none, none, rfl, sT, upd_same, .nil, rfl, rfl⟩ (fun i σ G _ ⟨_, _, _, _, _, _, e, _⟩ => SqL.of (e _ _ hp)) ?_ ?_⟩
    · rintro i y σ G hi ⟨acc, ts, v5, v6, v7, rfl, hG, hT, hD, hgo, hacc⟩
      obtain ⟨r, hri, rfl⟩ : ∃ r, rs[i]? = some r ∧ y = V.ref r := by
        rw [List.getElem?_map] at hi
        cases e : rs[i]? with
        | none => rw [e] at hi; cases hi
        | some x => rw [e] at hi; exact ⟨x, rfl, (Option.some.inj hi).symm⟩
      obtain ⟨l, hl, hr'⟩ := ListsAt.get hrs hri
      have lok : WsOk l := partM_ok hok l (List.mem_of_getElem? hl)
      have llen : l.length ≤ 1000 := Nat.le_trans (partM_len l (List.mem_of_getElem? hl)) hlen
      rw [drop_cons hl] at hgo
      have hil : i < rs.length := (List.getElem?_eq_some_iff.mp hri).1
      have Gr := hG _ _ hr'
      have c1 : cutV (l.map V.str) none (some 1) = (l.take 1).map V.str := cut_hi l 1
      have c2 : cutV (l.map V.str) (some 1) none = (l.drop 1).map V.str := cut_lo l 1
      refine ⟨_, rfl, _, rfl, r, _, rfl, SqL.of Gr, fun q nq => ⟨(by show 1 ≤ sizeLine; decide), fun q2 nq2 => ?_⟩⟩
      rw [c1] at nq2 ⊢
      have sq := Same.new (o := .lst ((l.take 1).map V.str)) nq
      have sq2 := Same.new (o := .lst [.str "not"]) nq2
      have lt1 : WsOk (l.take 1) := fun w hw => lok w (List.mem_of_mem_take hw)
      refine ⟨.list ((l.take 1).map PyData.str), .list ([("not" : Str)].map PyData.str), .lst (SqL.of (sq2 _ _ upd_same)) (dpWs _), .lst (SqL.of (xs := [("not" : Str)].map V.str) upd_same) (dpWs _), shapedWs lt1, by decide +kernel, ?_⟩
      rw [eqvL]
      have sG := sq.trans sq2
      have Gr2 := sG _ _ Gr
      have hT2 := sG _ _ hT
      have hD2 := hD.keep (Same.tk sG)
      have h12 := hG.trans sG
      obtain ⟨wt, hwt⟩ : ∃ wt : Bool, wt = decide (l.take 1 ≠ [("not" : Str)]) := ⟨_, rfl⟩
      have ewt : (!decide (l.take 1 = [("not" : Str)])) = wt := by
        rw [hwt]
        by_cases e : l.take 1 = [("not" : Str)] <;> simp [e]
      rw [ewt]
      have goP : partsGo (pm kd) (l :: (partM ws).drop (i + 1)) acc = match (pm kd (if l.take 1 ≠ [("not" : Str)] then l else l.drop 1)).map fun d => PyData.tuple [.bool wt, d] with
          | none => none
          | some d => partsGo (pm kd) ((partM ws).drop (i + 1)) (acc ++ [d]) := by
        rw [hwt]
        rfl
      rw [goP] at hgo
      by_cases e1 : l.take 1 = [("not" : Str)]
      · have ew : wt = false := by
          rw [hwt]
          exact decide_eq_false fun z => z e1
        subst ew
        have el : (if l.take 1 ≠ [("not" : Str)] then l else l.drop 1) = l.drop 1 := if_neg fun z => z e1
        rw [el] at hgo
        refine ⟨rfl, _, rfl, _, rfl, ?_⟩
        refine iteF ?_
        refine ⟨_, rfl, _, rfl, r, _, rfl, SqL.of Gr2, fun q3 nq3 => ?_⟩
        rw [c2]
        have s3 := Same.new (o := .lst ((l.drop 1).map V.str)) nq3
        have h13 := h12.trans s3
        have hT3 := s3 _ _ hT2
        have hD3 := hD2.keep (Same.tk s3)
        refine ⟨_, rfl, q3, l.drop 1, kd, rfl, hkd, SqL.of upd_same, (fun w hw => lok w (List.mem_of_mem_drop hw)), (by rw [List.length_drop]; omega), fun v G4 s4 res => ?_⟩
        have h4 := h13.trans s4
        have hT4 := s4 _ _ hT3
        have hD4 := hD3.keep (Same.tk s4)
        refine ⟨_, rfl, rfl, _, rfl, ?_⟩
        cases o : pm kd (l.drop 1) with
        | none =>
          rw [o] at res hgo
          refine ifT3 (decide_eq_true res) ?_
          refine kk _ _ (s1.trans h4) ?_
          rw [hM, hgo]
          rfl
        | some d =>
          rw [o] at res hgo
          have hgo2 : partsGo (pm kd) (partM ws) [] = partsGo (pm kd) ((partM ws).drop (i + 1)) (acc ++ [.tuple [.bool false, d]]) := hgo
          refine ifF3 (decide_eq_false res.1) ?_
          refine ⟨_, rfl, .inl ⟨rfl, _, SqL.of hT4⟩, _, rfl, _, rfl, (by show 2 ≤ sizeLine; decide), fun t nt => ?_⟩
          have st := Same.new (o := .tup [.bl false, v]) nt
          have hT5 := st _ _ hT4
          have nTt : T0 ≠ t := ne_of_none hT4 nt
          refine ⟨T0, _, _, rfl, rfl, hT5, small1000 (by rw [TDpAll.len hD, hacc]; omega), ?_⟩
          refine ⟨acc ++ [.tuple [.bool false, d]], ts ++ [t], _, _, _, rfl, Same.write (h4.trans st) H1T, by rw [List.map_append]; exact upd_same, ?_, hgo2, by rw [List.length_append, hacc]; rfl⟩
          rw [List.map_append]
          refine TDpAll.snoc ?_ ((hD4.keep (Same.tk st)).keep (Tk.write hT5))
          refine .tup (SqT.of ?_) (.cons (.bl _) (.cons ((res.2.keep (Same.tk st)).keep (Tk.write hT5)) .nil))
          rw [upd_ne nTt.symm]
          exact upd_same
      · have ew : wt = true := by
          rw [hwt]
          exact decide_eq_true e1
        subst ew
        have el : (if l.take 1 ≠ [("not" : Str)] then l else l.drop 1) = l := if_pos e1
        rw [el] at hgo
        refine ⟨rfl, _, rfl, _, rfl, ?_⟩
        refine iteT ?_
        refine ⟨_, rfl, _, rfl, r, l, kd, rfl, hkd, SqL.of Gr2, lok, llen, fun v G4 s4 res => ?_⟩
        have h4 := h12.trans s4
        have hT4 := s4 _ _ hT2
        have hD4 := hD2.keep (Same.tk s4)
        refine ⟨_, rfl, rfl, _, rfl, ?_⟩
        cases o : pm kd (l) with
        | none =>
          rw [o] at res hgo
          refine ifT3 (decide_eq_true res) ?_
          refine kk _ _ (s1.trans h4) ?_
          rw [hM, hgo]
          rfl
        | some d =>
          rw [o] at res hgo
          have hgo2 : partsGo (pm kd) (partM ws) [] = partsGo (pm kd) ((partM ws).drop (i + 1)) (acc ++ [.tuple [.bool true, d]]) := hgo
          refine ifF3 (decide_eq_false res.1) ?_
          refine ⟨_, rfl, .inl ⟨rfl, _, SqL.of hT4⟩, _, rfl, _, rfl, (by show 2 ≤ sizeLine; decide), fun t nt => ?_⟩
          have st := Same.new (o := .tup [.bl true, v]) nt
          have hT5 := st _ _ hT4
          have nTt : T0 ≠ t := ne_of_none hT4 nt
          refine ⟨T0, _, _, rfl, rfl, hT5, small1000 (by rw [TDpAll.len hD, hacc]; omega), ?_⟩
          refine ⟨acc ++ [.tuple [.bool true, d]], ts ++ [t], _, _, _, rfl, Same.write (h4.trans st) H1T, by rw [List.map_append]; exact upd_same, ?_, hgo2, by rw [List.length_append, hacc]; rfl⟩
          rw [List.map_append]
          refine TDpAll.snoc ?_ ((hD4.keep (Same.tk st)).keep (Tk.write hT5))
          refine .tup (SqT.of ?_) (.cons (.bl _) (.cons ((res.2.keep (Same.tk st)).keep (Tk.write hT5)) .nil))
          rw [upd_ne nTt.symm]
          exact upd_same
    · rintro σ G ⟨acc, ts, v5, v6, v7, rfl, hG, hT, hD, hgo, hacc⟩
      refine ⟨_, rfl, T0, _, rfl, .inl ⟨SqL.of hT, fun q nq => ?_⟩⟩
      have sq := Same.new (o := .tup (ts.map V.ref)) nq
      refine kk _ _ ((s1.trans hG).trans sq) ?_
      rw [hM, hgo, List.drop_eq_nil_of_le (by rw [List.length_map, hn]; exact Nat.le_refl _)]
      exact ⟨(by intro z; cases z), .tup (SqT.of upd_same) (hD.keep (Same.tk sq))⟩
end
end K14

set_option Elab.async false
set_option linter.all false
set_option maxRecDepth 100000
set_option maxHeartbeats 8000000
/-! Block codes, a: names, what a line does, as told in words alone -/
namespace L2
open PySem PySem.Spec PyProof.Rows
/-- x in (a, b, ..), data of any depth -/
def rInDT (K : PySem.W.Frag) : R2 := fun x y H Q => ∃ d ds, Dp K H x d ∧ Dp K H y (.tuple ds) ∧ SeqAt.shaped d = true ∧ SeqAt.shaped (.tuple ds) = true ∧ Q (.bl (ds.any fun z => PyData.eqv z d)) H
theorem op_inDT {X : Cx} (room : X.A.units + 65 < cLine) : OpR X (compareOp .In) (rInDT X.K) := by
  intro pins s σ H x y v u Q I rx ry h
  obtain ⟨d, ds, hd, he, sd, se, q⟩ := h
  have ⟨_, rd⟩ := Dp.reads I d x v hd rx
  have ⟨_, rt⟩ := Dp.reads I (.tuple ds) y u he ry
  refine SeqAt.in_tuple_reads rt rd (SeqAt.canLay_of_shaped se) (SeqAt.canLay_of_shaped sd) (room_in_shaped sd room) ?_
  exact ⟨.bl _, H, I, rfl, q⟩
end L2
namespace K14
open PySem L2
abbrev sReg : Stmt := top 46
abbrev sPlace : Stmt := top 47
abbrev sSized : Stmt := top 48
abbrev sFlag : Stmt := top 49
abbrev sTie : Stmt := top 50
abbrev sStep : Stmt := top 51
abbrev sHPart : Stmt := top 52
abbrev sMarks : Stmt := top 53
abbrev sForeign : Stmt := top 54
def kindsL : List Str := ["free", "take", "grow", "cut"]
def regsL : List Str := ["a", "b", "c"]
def placesL : List Str := ["p", "q", "r", "s"]
def knownL : List Str := ["own", "p", "q", "r", "s"]
def linkedL : List Str := ["own", "p", "q", "r", "s", "bin"]
def namesL : List Str := ["a", "b", "c", "want", "unit", "least"]
def linksL : List Str := ["next", "prev"]
def writingL : List Str := ["head", "resize", "flag", "foot", "tie"]
def flagM (w : Str) : Option Bool := if w = "used" then some true else if w = "free" then some false else none
structure TxtC (K : PySem.W.Frag) (w : World) (mg : Str → Option Value) : Prop where
  bk : ∃ c, mg "BLOCK_KINDS" = some (.ref c) ∧ ∀ H, SqT K H c (kindsL.map V.str)
  rg : ∃ c, mg "REGISTERS" = some (.ref c) ∧ ∀ H, SqT K H c (regsL.map V.str)
  pl : ∃ c, mg "PLACES" = some (.ref c) ∧ ∀ H, SqT K H c (placesL.map V.str)
  kn : ∃ c, mg "KNOWN" = some (.ref c) ∧ ∀ H, SqT K H c (knownL.map V.str)
  lk : ∃ c, mg "LINKED" = some (.ref c) ∧ ∀ H, SqT K H c (linkedL.map V.str)
  nm : ∃ c, mg "NAMES" = some (.ref c) ∧ ∀ H, SqT K H c (namesL.map V.str)
  ln : ∃ c, mg "LINKS" = some (.ref c) ∧ ∀ H, SqT K H c (linksL.map V.str)
  wr : ∃ c, mg "WRITING" = some (.ref c) ∧ ∀ H, SqT K H c (writingL.map V.str)
  fl : ∃ c es n, mg "FLAGS" = some (.ref c) ∧ KDict K w c es n ∧ ∀ z : Str, PySem.W.nsIn K c z = some ((flagM z).map Value.bool)
/-- the i-th word -/
def wd (ws : List Str) (i : Nat) : Str := ws.getD i Str.empty
def regM (ws : List Str) : Option PyData := if ws.length = 4 ∧ wd ws 2 = "size" ∧ wd ws 3 ∈ knownL then some (.tuple [.str "size", .str (wd ws 0), .str (wd ws 3)]) else
  if ws.length = 5 ∧ wd ws 2 = "size" ∧ wd ws 3 = "ahead" ∧ wd ws 4 ∈ knownL then some (.tuple [.str "size ahead", .str (wd ws 0), .str (wd ws 4)]) else
  (sumM (ws.drop 2) namesL).map fun acc => .tuple [.str "set", .str (wd ws 0), sumD acc]
def placeM (ws : List Str) : Option PyData := if ws.length = 4 ∧ wd ws 2 ∈ linksL ∧ wd ws 3 ∈ linkedL then some (.tuple [.str "link", .str (wd ws 0), .str (wd ws 2), .str (wd ws 3)]) else
  if ws.length < 3 ∨ ¬ wd ws 2 ∈ knownL then none else
  if ws.length = 3 then some (.tuple [.str "copy", .str (wd ws 0), .str (wd ws 2)]) else
  if ¬ (wd ws 3 = "+" ∨ wd ws 3 = "-") then none else
  (sumM (ws.drop 4) namesL).map fun acc => .tuple [.str "go", .str (wd ws 0), .str (wd ws 2), .int (if wd ws 3 = "+" then 1 else -1), sumD acc]
def headM (w1 : Str) : Option Acc → Option Bool → Option Bool → Option PyData
  | some acc, some u, some v => some (.tuple [.str "head", .str w1, sumD acc, .bool u, .bool v])
  | _, _, _ => none
def sizedM (ws : List Str) : Option PyData := if ws.length < 4 ∨ ¬ wd ws 1 ∈ knownL ∨ ¬ wd ws 2 = "=" then none else
  if wd ws 0 = "head" then
    headM (wd ws 1) (sumM ((ws.drop 3).take (ws.length - 5)) namesL) (flagM (wd ws (ws.length - 2))) (flagM (wd ws (ws.length - 1)))
  else (sumM (ws.drop 3) namesL).map fun acc => .tuple [.str (if wd ws 0 = "size" then "resize" else "foot"), .str (wd ws 1), sumD acc]
def flagStepM (ws : List Str) : Option PyData :=
  let which : Str := if wd ws 0 = "ahead" then "ahead" else "used"
  let rest : List Str := if wd ws 0 = "ahead" then ws.drop 1 else ws
  if rest.length = 2 ∧ wd rest 1 ∈ knownL then (flagM (wd rest 0)).map fun u => .tuple [.str "flag", .str (wd rest 1), .str which, .bool u] else none
def tieM (ws : List Str) : Option PyData := if ws.length = 4 ∧ wd ws 1 ∈ linkedL ∧ wd ws 2 = "=" ∧ wd ws 3 ∈ linkedL then some (.tuple [.str "tie", .str (wd ws 0), .str (wd ws 1), .str (wd ws 3)]) else none
def stepM (_kd : Str) (ws : List Str) : Option PyData := if ws = [("quit" : Str)] ∨ ws = [("no" : Str)] then some (.tuple [.str (wd ws 0)]) else
  if 2 ≤ ws.length ∧ wd ws 1 = "=" then (if wd ws 0 ∈ regsL then regM ws else if wd ws 0 ∈ placesL then placeM ws else none) else
  if wd ws 0 ∈ [("head" : Str), "size", "foot"] then sizedM ws else
  if wd ws 0 ∈ [("used" : Str), "free", "ahead"] then flagStepM ws else
  if wd ws 0 ∈ linksL then tieM ws else none
def hPartM (_kd : Str) (ws : List Str) : Option PyData := if ws.length = 2 ∧ wd ws 0 = "used" ∧ wd ws 1 ∈ knownL then some (.tuple [.str "used", .str (wd ws 1)]) else
  if ws.length = 3 ∧ wd ws 0 = "ahead" ∧ wd ws 1 = "used" ∧ wd ws 2 ∈ knownL then some (.tuple [.str "ahead", .str (wd ws 2)]) else
  if ws.length = 3 ∧ wd ws 1 = "is" ∧ wd ws 2 = "bin" ∧ wd ws 0 ∈ knownL then some (.tuple [.str "bin", .str (wd ws 0)]) else
  compM ws namesL
/-- one of the makers of steps, asked for words -/
def spWords (K : PySem.W.Frag) (pre : List Str → Prop) (sm : List Str → Option PyData) : Sp := fun vs H Q _ => ∃ (a : Addr) (ws : List Str), vs = [.ref a] ∧ SqL K H a (ws.map V.str) ∧ WsOk ws ∧ pre ws ∧ ws.length ≤ 1000 ∧
  ∀ (v : V) (H' : Hp), Same H H' → ResD K H' v (sm ws) → Q v H'
def spStepIn (K : PySem.W.Frag) (kinds : List Str) (sm : Str → List Str → Option PyData) : Sp := fun vs H Q _ => ∃ (a : Addr) (ws : List Str) (kd : Str), vs = [.ref a, .str kd] ∧ kd ∈ kinds ∧ SqL K H a (ws.map V.str) ∧ WsOk ws ∧ ws ≠ [] ∧ ws.length ≤ 1000 ∧
  ∀ (v : V) (H' : Hp), Same H H' → ResD K H' v (sm kd ws) → Q v H'
theorem at_pos {ws : List Str} {i : Nat} (h : i < ws.length) : atI (ws.map V.str) (i : Int) = some (.str (ws.getD i Str.empty)) :=
  atI_nat (by rw [List.getElem?_map, List.getD_eq_getElem?_getD, List.getElem?_eq_getElem h]; rfl)
theorem at_neg {ws : List Str} {i : Nat} (h0 : 0 < i) (h : i ≤ ws.length) : atI (ws.map V.str) (-(i : Int)) = some (.str (ws.getD (ws.length - i) Str.empty)) := by
  have e : ixN (ws.map V.str).length (-(i : Int)) = some (ws.length - i) := by
    unfold ixN
    rw [List.length_map]
    rw [if_neg (by omega), if_pos (by omega)]
    congr 1
    omega
  unfold atI
  rw [e]
  show (ws.map V.str)[ws.length - i]? = _
  rw [List.getElem?_map, List.getD_eq_getElem?_getD, List.getElem?_eq_getElem (by omega)]
  rfl
theorem getD_mem {ws : List Str} {i : Nat} (h : i < ws.length) : ws.getD i Str.empty ∈ ws := by
  rw [List.getD_eq_getElem?_getD, List.getElem?_eq_getElem h]
  exact List.getElem_mem h
theorem wd_at {ws : List Str} {i : Nat} (h : i < ws.length) : atI (ws.map V.str) (i : Int) = some (.str (wd ws i)) := at_pos h
theorem wd_mem {ws : List Str} {i : Nat} (h : i < ws.length) : wd ws i ∈ ws := getD_mem h
theorem dec_len {ws : List Str} {n : Nat} : decide (V.int (((ws.map V.str).length : Nat) : Int) = V.int (n : Int)) = decide (ws.length = n) := by
  rw [List.length_map]
  by_cases h : ws.length = n
  · rw [decide_eq_true h, h]; exact decide_eq_true rfl
  · rw [decide_eq_false h]; exact decide_eq_false fun z => h (by have := V.int.inj z; omega)
theorem dec_str {x y : Str} : decide (V.str x = V.str y) = decide (x = y) := by
  by_cases h : x = y
  · rw [decide_eq_true h, h]; exact decide_eq_true rfl
  · rw [decide_eq_false h]; exact decide_eq_false fun z => h (V.str.inj z)
end K14

set_option Elab.async false
set_option linter.all false
set_option maxRecDepth 100000
set_option maxHeartbeats 8000000
/-! Block codes, b: a register's line -/
namespace K14
open PySem L2
/-- a test that tells whether p; nothing that stands is changed -/
def Says (A : TT) (σ : L2.St) (H : Hp) (p : Prop) [Decidable p] : Prop := ∀ Q : Bool → Hp → Prop, (∀ G, Same H G → Q (decide p) G) → A σ H Q
section
variable {A B : TT} {σ : L2.St} {H : Hp} {p q : Prop} [Decidable p] [Decidable q]
theorem Says.and (ha : Says A σ H p) (hb : ∀ G, Same H G → p → Says B σ G q) : Says (tAnd A B) σ H (p ∧ q) := fun Q h => ha _ fun G s => by
  by_cases c : p
  · rw [if_pos (decide_eq_true c)]
    exact hb G s c Q fun G2 s2 => by rw [show decide q = decide (p ∧ q) from decide_eq_decide.mpr ⟨fun z => ⟨c, z⟩, fun z => z.2⟩]; exact h G2 (s.trans s2)
  · rw [if_neg (by rw [decide_eq_false c]; decide)]
    have z := h G s
    rw [decide_eq_false (fun z : p ∧ q => c z.1)] at z
    exact z
theorem Says.or (ha : Says A σ H p) (hb : ∀ G, Same H G → ¬ p → Says B σ G q) : Says (tOr A B) σ H (p ∨ q) := fun Q h => ha _ fun G s => by
  by_cases c : p
  · rw [if_pos (decide_eq_true c)]
    have z := h G s
    rw [decide_eq_true (.inl c : p ∨ q)] at z
    exact z
  · rw [if_neg (by rw [decide_eq_false c]; decide)]
    exact hb G s c Q fun G2 s2 => by rw [show decide q = decide (p ∨ q) from decide_eq_decide.mpr ⟨.inr, fun z => z.resolve_left c⟩]; exact h G2 (s.trans s2)
theorem Says.ite {t e : TS} {D : Ends} (ha : Says A σ H p) (ht : ∀ G, Same H G → p → t D σ G) (he : ∀ G, Same H G → ¬ p → e D σ G) : tIfS A t e D σ H := ha _ fun G s => by
  by_cases c : p
  · rw [if_pos (decide_eq_true c)]
    exact ht G s c
  · rw [if_neg (by rw [decide_eq_false c]; decide)]
    exact he G s c
end
theorem sq {a b : TS} {D : Ends} {σ : L2.St} {H : Hp} (h : a { D with nx := fun σ' H' => b D σ' H' } σ H) : tSeq a b D σ H := h
theorem nxt {D : Ends} {σ : L2.St} {H : Hp} (h : D.nx σ H) : tNext D σ H := h
theorem dec_lt {ws : List Str} {n : Nat} : decide ((((ws.map V.str).length : Nat) : Int) < ((n : Nat) : Int)) = decide (ws.length < n) := by
  rw [List.length_map]
  exact decide_eq_decide.mpr ⟨fun h => by omega, fun h => by omega⟩
theorem cut_two (ws : List Str) (i j : Nat) (h : j ≤ ws.length) (hij : i ≤ j) : cutV (ws.map V.str) (some (i : Int)) (some (j : Int)) = ((ws.drop i).take (j - i)).map V.str := by
  unfold cutV
  rw [HT.sIx_nat, HT.sIx_nat, List.length_map, Nat.min_eq_left h, Nat.min_eq_left (Nat.le_trans hij h), List.map_take, List.map_drop]
theorem two_wd {ws : List Str} {i : Nat} (h : i + 2 ≤ ws.length) : (ws.drop i).take 2 = [wd ws i, wd ws (i + 1)] := by
  unfold wd
  rw [List.getD_eq_getElem?_getD, List.getD_eq_getElem?_getD, List.getElem?_eq_getElem (by omega), List.getElem?_eq_getElem (by omega)]
  rw [List.drop_eq_getElem_cons (by omega), List.drop_eq_getElem_cons (by omega)]
  rfl
section
variable {P : Program} {w : World} {K : PySem.W.Frag} {mg : Str → Option Value} {base : Heap}
theorem scReg : FnScope ["words", "terms"] ["words"] (defScope sReg) := ⟨rfl, rfl, rfl, by decide +kernel, rfl, by decide +kernel, by decide +kernel⟩
theorem ok_reg {f fS : Addr} {fd fdS : FuncData} (F : Fun K "register_step" "register_step" sReg f fd) (TN : TxtN mg) (T : TxtC K w mg)
    (GS : FnOk P w K mg base CX0 3 fS fdS ["words", "names"] (spSum K)) (kS : PySem.W.keepIn K (.ref fS) = true) (bS : Binds K fdS ["words", "names"] []) (gS : mg "sum_in" = some (.ref fS)) :
    FnOk P w K mg base CX0 4 f fd ["words"] (spWords K (fun ws => 2 ≤ ws.length) regM) := by
  obtain ⟨c1, hc1, hC1⟩ := T.kn
  obtain ⟨c2, hc2, hC2⟩ := T.nm
  refine F.ok scReg (fun vs H Q E h => ?_) (fun cdv A outer s H vs Q E hr h => ?_)
  · obtain ⟨a, ws, rfl, _⟩ := h
    rfl
  · obtain ⟨a, ws, rfl, ha, hok, h2, hlen, k⟩ := h
    refine ⟨_, pss_cons (ps_if (PW.pt (pw_and (pt_cmpR op_eq (pe_callB call_len_seq (by rfl) TN.len PySem.boot_len (pa_cons (pv 0) pa_nil)) pe_int (nomark _)) (pw_and (pt_cmpR op_eq (pe_ix ix_list (pv 0) pe_int (fun _ _ => rfl)) pe_str (nomark _)) (pw_and1 (pt_cmpR op_in_seq (pe_ix ix_list (pv 0) pe_int (fun _ _ => rfl)) (pe_glob (v := .ref c1) (by rfl) hc1 rfl) (by rfl)))))) (pss_one (ps_ret (pe_tup (pa_cons pe_str (pa_cons (pe_ix ix_list (pv 0) pe_int (fun _ _ => rfl)) (pa_cons (pe_ix ix_list (pv 0) pe_int (fun _ _ => rfl)) pa_nil)))))) pss_nil)
      (pss_cons (ps_if (PW.pt (pw_and (pt_cmpR op_eq (pe_callB call_len_seq (by rfl) TN.len PySem.boot_len (pa_cons (pv 0) pa_nil)) pe_int (nomark _)) (pw_and (pt_cmpR (op_eqD hr.units) (pe_slice sl_list (pv 0) (po_some pe_int) (po_some pe_int)) (pe_lst (pa_cons pe_str (pa_cons pe_str pa_nil))) (nomark _)) (pw_and1 (pt_cmpR op_in_seq (pe_ix ix_list (pv 0) pe_int (fun _ _ => rfl)) (pe_glob (v := .ref c1) (by rfl) hc1 rfl) (by rfl)))))) (pss_one (ps_ret (pe_tup (pa_cons pe_str (pa_cons (pe_ix ix_list (pv 0) pe_int (fun _ _ => rfl)) (pa_cons (pe_ix ix_list (pv 0) pe_int (fun _ _ => rfl)) pa_nil)))))) pss_nil)
      (pss_cons (ps_set (i := 1) scReg.nd rfl (Or.inl rfl) (pe_call GS hr rfl gS kS bS .nil pass0 (pa_cons (pe_slice sl_list (pv 0) (po_some pe_int) po_none) (pa_cons (pe_glob (v := .ref c2) (by rfl) hc2 rfl) pa_nil))))
      (pss_one (ps_ret (pe_ifExp (pt_cmpR op_isN (pv 1) pe_non (nomark _)) pe_non (pe_tup (pa_cons pe_str (pa_cons (pe_ix ix_list (pv 0) pe_int (fun _ _ => rfl)) (pa_cons (pv 1) pa_nil))))))))), ?_⟩
    refine Says.ite (Says.and (fun Q h => ⟨_, rfl, a, _, rfl, .inl ha, rfl, _, rfl, by show Q (decide (V.int _ = V.int ((4 : Nat) : Int))) _; rw [dec_len]; exact h _ (Same.refl _)⟩) (fun G1 s1 h1 => (Says.and (fun Q h => ⟨_, rfl, a, _, 2, _, rfl, rfl, (s1.seq ha), wd_at (i := 2) (by omega), rfl, _, rfl, by rw [dec_str]; exact h _ (Same.refl _)⟩) (fun G2 s2 h2 => (fun Q h => ⟨_, rfl, a, _, 3, _, rfl, rfl, (s2.seq (s1.seq ha)), wd_at (i := 3) (by omega), c1, _, rfl, .inr (hC1 _), rfl, flat_str knownL, by rw [if_neg Bool.false_ne_true, inV_str]; exact ⟨_, rfl, h _ (Same.refl _)⟩⟩))))) (fun G1 t1 h1 => ?_) (fun G1 t1 h1 => ?_)
    · obtain ⟨z4, z⟩ := h1
      refine ⟨_, rfl, a, _, 0, _, rfl, rfl, t1.seq ha, wd_at (i := 0) (by omega), _, rfl, a, _, 3, _, rfl, rfl, t1.seq ha, wd_at (i := 3) (by omega), (by show 3 ≤ sizeLine; decide), fun p np => ?_⟩
      refine k _ _ (t1.trans (Same.new np)) ?_
      unfold regM
      rw [if_pos ⟨z4, z⟩]
      exact ⟨(by intro z; cases z), .tup (SqT.of upd_same) (.cons (.str _) (.cons (.str _) (.cons (.str _) .nil)))⟩
    have a1 := t1.seq ha
    have sl : ws.length = 5 → ∀ G, Same G1 G → Says (tTest (tOp (rEqD K) (tSl (rSlL K) (tVar 0) (tPart (tC (V.int 2))) (tPart (tC (V.int 4)))) (tLst (tCons (tC (V.str "size")) (tCons (tC (V.str "ahead")) tNil))))) [some (.ref a), none] G (wd ws 2 = "size" ∧ wd ws 3 = "ahead") := fun z5 G sG Q h => by
      refine ⟨_, rfl, _, rfl, _, rfl, a, _, rfl, sG.seq a1, fun q nq => ?_⟩
      rw [show cutV (ws.map V.str) (some 2) (some 4) = ((ws.drop 2).take 2).map V.str from cut_two ws 2 4 (by omega) (by decide), two_wd (by omega)]
      refine ⟨(by show 2 ≤ sizeLine; decide), fun q2 nq2 => ?_⟩
      have u1 := Same.new (o := .lst ([wd ws 2, wd ws (2 + 1)].map V.str)) nq
      have u2 := Same.new (o := .lst [.str "size", .str "ahead"]) nq2
      refine ⟨.list ([wd ws 2, wd ws (2 + 1)].map PyData.str), .list ([("size" : Str), "ahead"].map PyData.str), .lst (SqL.of (u2 _ _ upd_same)) (dpWs _), .lst (SqL.of (xs := [("size" : Str), "ahead"].map V.str) upd_same) (dpWs _), shapedWs (ws := [wd ws 2, wd ws (2 + 1)]) (fun x hx => ?_), by decide +kernel, ?_⟩
      · rcases List.mem_cons.mp hx with e | e
        · rw [e]; exact hok _ (wd_mem (by omega))
        · rw [List.mem_singleton.mp e]; exact hok _ (wd_mem (by omega))
      · rw [eqvL]
        refine ⟨_, rfl, ?_⟩
        rw [show decide ([wd ws 2, wd ws (2 + 1)] = [("size" : Str), "ahead"]) = decide (wd ws 2 = "size" ∧ wd ws 3 = "ahead") from decide_eq_decide.mpr (by simp)]
        exact h _ (u1.trans u2)
    refine nxt ?_
    dsimp only
    refine Says.ite (p := ws.length = 5 ∧ (wd ws 2 = "size" ∧ wd ws 3 = "ahead") ∧ wd ws 4 ∈ knownL) ?_ (fun G2 t2 h2 => ?_) (fun G2 t2 h2 => ?_)
    · exact (Says.and (fun Q h => ⟨_, rfl, a, _, rfl, .inl a1, rfl, _, rfl, by show Q (decide (V.int _ = V.int ((5 : Nat) : Int))) _; rw [dec_len]; exact h _ (Same.refl _)⟩) fun G2 s2 h2 => Says.and (sl h2 G2 s2) fun G3 s3 h3 => (fun Q h => ⟨_, rfl, a, _, 4, _, rfl, rfl, ((s2.trans s3).seq a1), wd_at (i := 4) (by omega), c1, _, rfl, .inr (hC1 _), rfl, flat_str knownL, by rw [if_neg Bool.false_ne_true, inV_str]; exact ⟨_, rfl, h _ (Same.refl _)⟩⟩))
    · obtain ⟨z5, ⟨z, z'⟩, z''⟩ := h2
      have a2 := t2.seq a1
      refine ⟨_, rfl, a, _, 0, _, rfl, rfl, a2, wd_at (i := 0) (by omega), _, rfl, a, _, 4, _, rfl, rfl, a2, wd_at (i := 4) (by omega), (by show 3 ≤ sizeLine; decide), fun p np => ?_⟩
      refine k _ _ ((t1.trans t2).trans (Same.new np)) ?_
      unfold regM
      rw [if_neg h1, if_pos ⟨z5, z, z', z''⟩]
      exact ⟨(by intro z; cases z), .tup (SqT.of upd_same) (.cons (.str _) (.cons (.str _) (.cons (.str _) .nil)))⟩
    have a2 := t2.seq a1
    refine ⟨_, rfl, _, rfl, a, _, rfl, a2, fun q nq => ?_⟩
    rw [show cutV (ws.map V.str) (some 2) none = (ws.drop 2).map V.str from cut_lo ws 2]
    have u1 := Same.new (o := .lst ((ws.drop 2).map V.str)) nq
    have wok2 : WsOk (ws.drop 2) := fun w hw => hok w (List.mem_of_mem_drop hw)
    refine ⟨q, c2, ws.drop 2, namesL, rfl, SqL.of upd_same, hC2 _, wok2.two, by rw [List.length_drop]; omega, fun v G4 s4 res => ?_⟩
    have sA := (t1.trans t2).trans (u1.trans s4)
    have hM : regM ws = (sumM (ws.drop 2) namesL).map fun acc => .tuple [.str "set", .str (wd ws 0), sumD acc] := by
      unfold regM
      rw [if_neg h1, if_neg (fun z => h2 ⟨z.1, ⟨z.2.1, z.2.2.1⟩, z.2.2.2⟩)]
    refine ⟨_, rfl, rfl, _, rfl, ?_⟩
    cases o : sumM (ws.drop 2) namesL with
    | none =>
      rw [o] at res hM
      have rv : v = .non := res
      subst rv
      exact iteT (k _ _ sA (by rw [hM]; rfl))
    | some acc =>
      rw [o] at res hM
      refine ifF3 (decide_eq_false res.1) ?_
      refine ⟨_, rfl, a, _, 0, _, rfl, rfl, sA.seq ha, wd_at (i := 0) (by omega), _, rfl, (by show 3 ≤ sizeLine; decide), fun p np => ?_⟩
      refine k _ _ (sA.trans (Same.new np)) ?_
      rw [hM]
      exact ⟨(by intro z; cases z), .tup (SqT.of upd_same) (.cons (.str _) (.cons (.str _) (.cons (res.2.keep (Same.tk (Same.new np))) .nil)))⟩
end
end K14

set_option Elab.async false
set_option linter.all false
set_option maxRecDepth 100000
set_option maxHeartbeats 8000000
/-! Block codes, c: a place's line, a tie -/
namespace K14
open PySem L2
section
variable {P : Program} {w : World} {K : PySem.W.Frag} {mg : Str → Option Value} {base : Heap}
theorem scPlace : FnScope ["words", "terms", "times"] ["words"] (defScope sPlace) := ⟨rfl, rfl, rfl, by decide +kernel, rfl, by decide +kernel, by decide +kernel⟩
theorem ok_place {f fS : Addr} {fd fdS : FuncData} (F : Fun K "place_step" "place_step" sPlace f fd) (TN : TxtN mg) (T : TxtC K w mg)
    (GS : FnOk P w K mg base CX0 3 fS fdS ["words", "names"] (spSum K)) (kS : PySem.W.keepIn K (.ref fS) = true) (bS : Binds K fdS ["words", "names"] []) (gS : mg "sum_in" = some (.ref fS)) : FnOk P w K mg base CX0 4 f fd ["words"] (spWords K (fun ws => 2 ≤ ws.length) placeM) := by
  obtain ⟨c1, hc1, hC1⟩ := T.kn
  obtain ⟨c2, hc2, hC2⟩ := T.nm
  obtain ⟨c3, hc3, hC3⟩ := T.ln
  obtain ⟨c4, hc4, hC4⟩ := T.lk
  refine F.ok scPlace (fun vs H Q E h => ?_) (fun cdv A outer s H vs Q E hr h => ?_)
  · obtain ⟨a, ws, rfl, _⟩ := h
    rfl
  · obtain ⟨a, ws, rfl, ha, hok, h2, hlen, k⟩ := h
    refine ⟨_, pss_cons (ps_if (PW.pt (pw_and (pt_cmpR op_eq (pe_callB call_len_seq (by rfl) TN.len PySem.boot_len (pa_cons (pv 0) pa_nil)) pe_int (nomark _)) (pw_and (pt_cmpR op_in_seq (pe_ix ix_list (pv 0) pe_int (fun _ _ => rfl)) (pe_glob (v := .ref c3) (by rfl) hc3 rfl) (by rfl)) (pw_and1 (pt_cmpR op_in_seq (pe_ix ix_list (pv 0) pe_int (fun _ _ => rfl)) (pe_glob (v := .ref c4) (by rfl) hc4 rfl) (by rfl)))))) (pss_one (ps_ret (pe_tup (pa_cons pe_str (pa_cons (pe_ix ix_list (pv 0) pe_int (fun _ _ => rfl)) (pa_cons (pe_ix ix_list (pv 0) pe_int (fun _ _ => rfl)) (pa_cons (pe_ix ix_list (pv 0) pe_int (fun _ _ => rfl)) pa_nil))))))) pss_nil)
      (pss_cons (ps_if (PW.pt (pw_or (pt_cmpR op_lt (pe_callB call_len_seq (by rfl) TN.len PySem.boot_len (pa_cons (pv 0) pa_nil)) pe_int (nomark _)) (pw_or1 (pt_cmpR op_notIn_seq (pe_ix ix_list (pv 0) pe_int (fun _ _ => rfl)) (pe_glob (v := .ref c1) (by rfl) hc1 rfl) (by rfl))))) (pss_one (ps_ret pe_non)) pss_nil)
      (pss_cons (ps_if (pt_cmpR op_eq (pe_callB call_len_seq (by rfl) TN.len PySem.boot_len (pa_cons (pv 0) pa_nil)) pe_int (nomark _)) (pss_one (ps_ret (pe_tup (pa_cons pe_str (pa_cons (pe_ix ix_list (pv 0) pe_int (fun _ _ => rfl)) (pa_cons (pe_ix ix_list (pv 0) pe_int (fun _ _ => rfl)) pa_nil)))))) pss_nil)
      (pss_cons (ps_if (pt_cmpR op_notIn_seq (pe_ix ix_list (pv 0) pe_int (fun _ _ => rfl)) (pe_tup (pa_cons pe_str (pa_cons pe_str pa_nil))) (by rfl)) (pss_one (ps_ret pe_non)) pss_nil)
      (pss_cons (ps_set (i := 1) scPlace.nd rfl (Or.inl rfl) (pe_call GS hr rfl gS kS bS .nil pass0 (pa_cons (pe_slice sl_list (pv 0) (po_some pe_int) po_none) (pa_cons (pe_glob (v := .ref c2) (by rfl) hc2 rfl) pa_nil))))
      (pss_cons (ps_set (i := 2) scPlace.nd rfl (Or.inl rfl) (pe_ifExp (pt_cmpR op_eq (pe_ix ix_list (pv 0) pe_int (fun _ _ => rfl)) pe_str (nomark _)) pe_int (pe_un un_neg pe_int)))
      (pss_one (ps_ret (pe_ifExp (pt_cmpR op_isN (pv 1) pe_non (nomark _)) pe_non (pe_tup (pa_cons pe_str (pa_cons (pe_ix ix_list (pv 0) pe_int (fun _ _ => rfl)) (pa_cons (pe_ix ix_list (pv 0) pe_int (fun _ _ => rfl)) (pa_cons (pv 2) (pa_cons (pv 1) pa_nil)))))))))))))), ?_⟩
    refine Says.ite (Says.and (fun Q h => ⟨_, rfl, a, _, rfl, .inl ha, rfl, _, rfl, by show Q (decide (V.int _ = V.int ((4 : Nat) : Int))) _; rw [dec_len]; exact h _ (Same.refl _)⟩) (fun G1 s1 h1 => (Says.and (fun Q h => ⟨_, rfl, a, _, 2, _, rfl, rfl, (s1.seq ha), wd_at (i := 2) (by omega), c3, _, rfl, .inr (hC3 _), rfl, flat_str linksL, by rw [if_neg Bool.false_ne_true, inV_str]; exact ⟨_, rfl, h _ (Same.refl _)⟩⟩) (fun G2 s2 h2 => (fun Q h => ⟨_, rfl, a, _, 3, _, rfl, rfl, (s2.seq (s1.seq ha)), wd_at (i := 3) (by omega), c4, _, rfl, .inr (hC4 _), rfl, flat_str linkedL, by rw [if_neg Bool.false_ne_true, inV_str]; exact ⟨_, rfl, h _ (Same.refl _)⟩⟩))))) (fun G1 t1 h1 => ?_) (fun G1 t1 h1 => ?_)
    · obtain ⟨z4, z⟩ := h1
      refine ⟨_, rfl, a, _, 0, _, rfl, rfl, t1.seq ha, wd_at (i := 0) (by omega), _, rfl, a, _, 2, _, rfl, rfl, t1.seq ha, wd_at (i := 2) (by omega), _, rfl, a, _, 3, _, rfl, rfl, t1.seq ha, wd_at (i := 3) (by omega), (by show 4 ≤ sizeLine; decide), fun p np => ?_⟩
      refine k _ _ (t1.trans (Same.new np)) ?_
      unfold placeM
      rw [if_pos ⟨z4, z⟩]
      exact ⟨(by intro z; cases z), .tup (SqT.of upd_same) (.cons (.str _) (.cons (.str _) (.cons (.str _) (.cons (.str _) .nil))))⟩
    have a1 := t1.seq ha
    have m1 : placeM ws = if ws.length < 3 ∨ ¬ wd ws 2 ∈ knownL then none else if ws.length = 3 then some (.tuple [.str "copy", .str (wd ws 0), .str (wd ws 2)]) else if ¬ (wd ws 3 = "+" ∨ wd ws 3 = "-") then none else
        (sumM (ws.drop 4) namesL).map fun acc => .tuple [.str "go", .str (wd ws 0), .str (wd ws 2), .int (if wd ws 3 = "+" then 1 else -1), sumD acc] := by
      unfold placeM
      rw [if_neg h1]
    refine nxt ?_
    dsimp only
    refine Says.ite (Says.or (fun Q h => ⟨_, rfl, a, _, rfl, .inl a1, _, _, rfl, rfl, _, rfl, by show Q (decide ((((ws.map V.str).length : Nat) : Int) < ((3 : Nat) : Int))) _; rw [dec_lt]; exact h _ (Same.refl _)⟩) (fun G1 s1 h1 => (fun Q h => ⟨_, rfl, a, _, 2, _, rfl, rfl, (s1.seq a1), wd_at (i := 2) (by omega), c1, _, rfl, .inr (hC1 _), rfl, flat_str knownL, by rw [if_pos rfl, inV_str, ← decide_not]; exact ⟨_, rfl, h _ (Same.refl _)⟩⟩))) (fun G2 t2 h2 => ?_) (fun G2 t2 h2 => ?_)
    · exact k .non _ (t1.trans t2) (by rw [m1, if_pos h2]; rfl)
    rw [if_neg h2] at m1
    have l3 : 3 ≤ ws.length := Nat.le_of_not_lt fun z => h2 (.inl z)
    have a2 := t2.seq a1
    refine nxt ?_
    dsimp only
    refine Says.ite (fun Q h => ⟨_, rfl, a, _, rfl, .inl a2, rfl, _, rfl, by show Q (decide (V.int _ = V.int ((3 : Nat) : Int))) _; rw [dec_len]; exact h _ (Same.refl _)⟩) (fun G3 t3 h3 => ?_) (fun G3 t3 h3 => ?_)
    · refine ⟨_, rfl, a, _, 0, _, rfl, rfl, t3.seq a2, wd_at (i := 0) (by omega), _, rfl, a, _, 2, _, rfl, rfl, t3.seq a2, wd_at (i := 2) (by omega), (by show 3 ≤ sizeLine; decide), fun p np => ?_⟩
      refine k _ _ ((t1.trans t2).trans (t3.trans (Same.new np))) ?_
      rw [m1, if_pos h3]
      exact ⟨(by intro z; cases z), .tup (SqT.of upd_same) (.cons (.str _) (.cons (.str _) (.cons (.str _) .nil)))⟩
    rw [if_neg h3] at m1
    have a3 := t3.seq a2
    refine nxt ?_
    dsimp only
    have e2 : ∀ x : Str, x ∈ [("+" : Str), "-"] ↔ (x = "+" ∨ x = "-") := fun x => by simp
    refine Says.ite (fun Q h => ⟨_, rfl, a, _, 3, _, rfl, rfl, a3, wd_at (i := 3) (by omega), (by show 2 ≤ sizeLine; decide), fun qq nqq => ⟨qq, _, rfl, .inr (SqT.of upd_same), rfl, flat_str [("+" : Str), ("-" : Str)], by rw [if_pos rfl]; exact ⟨_, rfl, by show Q (!inV (V.str _) ([("+" : Str), ("-" : Str)].map V.str)) _; rw [inV_str, ← decide_not]; exact h _ (Same.new nqq)⟩⟩⟩) (fun G4 t4 h4 => ?_) (fun G4 t4 h4 => ?_)
    · exact k .non _ ((t1.trans t2).trans (t3.trans t4)) (by rw [m1, if_pos (fun z => h4 ((e2 _).mpr z))]; rfl)
    rw [if_neg (fun z => h4 fun y => z ((e2 _).mp y))] at m1
    have a4 := t4.seq a3
    have s4 := (t1.trans t2).trans (t3.trans t4)
    refine ⟨_, rfl, _, rfl, a, _, rfl, a4, fun q nq => ?_⟩
    rw [show cutV (ws.map V.str) (some 4) none = (ws.drop 4).map V.str from cut_lo ws 4]
    have u1 := Same.new (o := .lst ((ws.drop 4).map V.str)) nq
    have wok2 : WsOk (ws.drop 4) := fun w hw => hok w (List.mem_of_mem_drop hw)
    refine ⟨q, c2, ws.drop 4, namesL, rfl, SqL.of upd_same, hC2 _, wok2.two, by rw [List.length_drop]; omega, fun v G5 s5 res => ?_⟩
    have sA := s4.trans (u1.trans s5)
    have aA := sA.seq ha
    have fin : (∀ n : Int, n = (if wd ws 3 = "+" then 1 else -1) → ∀ x : Prop, x → x) := fun _ _ _ z => z
    by_cases hp : wd ws 3 = "+"
    all_goals
      refine ⟨_, rfl, a, _, 3, _, rfl, rfl, aA, wd_at (i := 3) (by omega), rfl, _, rfl, ?_⟩
      rw [dec_str]
      first
        | (rw [decide_eq_true hp]; refine iteT ?_)
        | (rw [decide_eq_false hp]; refine iteF ⟨1, rfl, ?_⟩)
      refine ⟨_, rfl, rfl, _, rfl, ?_⟩
      cases o : sumM (ws.drop 4) namesL with
      | none =>
        rw [o] at res m1
        have rv : v = .non := res
        subst rv
        exact iteT (k _ _ sA (by rw [m1]; rfl))
      | some acc =>
        rw [o] at res m1
        refine ifF3 (decide_eq_false res.1) ?_
        refine ⟨_, rfl, a, _, 0, _, rfl, rfl, aA, wd_at (i := 0) (by omega), _, rfl, a, _, 2, _, rfl, rfl, aA, wd_at (i := 2) (by omega), _, rfl, _, rfl, (by show 5 ≤ sizeLine; decide), fun p np => ?_⟩
        refine k _ _ (sA.trans (Same.new np)) ?_
        rw [m1]
        first
          | rw [if_pos hp]
          | rw [if_neg hp]
        exact ⟨(by intro z; cases z), .tup (SqT.of upd_same) (.cons (.str _) (.cons (.str _) (.cons (.str _) (.cons (.int _) (.cons (res.2.keep (Same.tk (Same.new np))) .nil)))))⟩
theorem scTie : FnScope ["words"] ["words"] (defScope sTie) := ⟨rfl, rfl, rfl, by decide +kernel, rfl, by decide +kernel, by decide +kernel⟩
theorem ok_tie {f : Addr} {fd : FuncData} (F : Fun K "tie_step" "tie_step" sTie f fd) (TN : TxtN mg) (T : TxtC K w mg) : FnOk P w K mg base CX0 1 f fd ["words"] (spWords K (fun ws => 1 ≤ ws.length) tieM) := by
  obtain ⟨c4, hc4, hC4⟩ := T.lk
  refine F.ok scTie (fun vs H Q E h => ?_) (fun cdv A outer s H vs Q E hr h => ?_)
  · obtain ⟨a, ws, rfl, _⟩ := h
    rfl
  · obtain ⟨a, ws, rfl, ha, hok, h2, hlen, k⟩ := h
    refine ⟨_, pss_cons (ps_if (PW.pt (pw_or (pt_cmpR op_ne (pe_callB call_len_seq (by rfl) TN.len PySem.boot_len (pa_cons (pv 0) pa_nil)) pe_int (nomark _)) (pw_or (pt_cmpR op_notIn_seq (pe_ix ix_list (pv 0) pe_int (fun _ _ => rfl)) (pe_glob (v := .ref c4) (by rfl) hc4 rfl) (by rfl)) (pw_or (pt_cmpR op_ne (pe_ix ix_list (pv 0) pe_int (fun _ _ => rfl)) pe_str (nomark _)) (pw_or1 (pt_cmpR op_notIn_seq (pe_ix ix_list (pv 0) pe_int (fun _ _ => rfl)) (pe_glob (v := .ref c4) (by rfl) hc4 rfl) (by rfl))))))) (pss_one (ps_ret pe_non)) pss_nil)
      (pss_one (ps_ret (pe_tup (pa_cons pe_str (pa_cons (pe_ix ix_list (pv 0) pe_int (fun _ _ => rfl)) (pa_cons (pe_ix ix_list (pv 0) pe_int (fun _ _ => rfl)) (pa_cons (pe_ix ix_list (pv 0) pe_int (fun _ _ => rfl)) pa_nil))))))), ?_⟩
    refine Says.ite (Says.or (fun Q h => ⟨_, rfl, a, _, rfl, .inl ha, rfl, _, rfl, by show Q (!decide (V.int _ = V.int ((4 : Nat) : Int))) _; rw [dec_len, ← decide_not]; exact h _ (Same.refl _)⟩) (fun G1 s1 h1 => (Says.or (fun Q h => ⟨_, rfl, a, _, 1, _, rfl, rfl, (s1.seq ha), wd_at (i := 1) (by omega), c4, _, rfl, .inr (hC4 _), rfl, flat_str linkedL, by rw [if_pos rfl, inV_str, ← decide_not]; exact ⟨_, rfl, h _ (Same.refl _)⟩⟩) (fun G2 s2 h2 => (Says.or (fun Q h => ⟨_, rfl, a, _, 2, _, rfl, rfl, (s2.seq (s1.seq ha)), wd_at (i := 2) (by omega), rfl, _, rfl, by rw [dec_str, ← decide_not]; exact h _ (Same.refl _)⟩) (fun G3 s3 h3 => (fun Q h => ⟨_, rfl, a, _, 3, _, rfl, rfl, (s3.seq (s2.seq (s1.seq ha))), wd_at (i := 3) (by omega), c4, _, rfl, .inr (hC4 _), rfl, flat_str linkedL, by rw [if_pos rfl, inV_str, ← decide_not]; exact ⟨_, rfl, h _ (Same.refl _)⟩⟩))))))) (fun G1 t1 h1 => ?_) (fun G1 t1 h1 => ?_)
    · exact k .non _ t1 (by
        unfold tieM
        rw [if_neg fun z => h1.elim (fun y => y z.1) fun y => y.elim (fun y => y z.2.1) fun y => y.elim (fun y => y z.2.2.1) fun y => y z.2.2.2]
        rfl)
    have l4 : ws.length = 4 := Decidable.not_not.mp fun z => h1 (.inl z)
    refine nxt ?_
    dsimp only
    refine ⟨_, rfl, a, _, 0, _, rfl, rfl, t1.seq ha, wd_at (i := 0) (by omega), _, rfl, a, _, 1, _, rfl, rfl, t1.seq ha, wd_at (i := 1) (by omega), _, rfl, a, _, 3, _, rfl, rfl, t1.seq ha, wd_at (i := 3) (by omega), (by show 4 ≤ sizeLine; decide), fun p np => ?_⟩
    refine k _ _ (t1.trans (Same.new np)) ?_
    unfold tieM
    rw [if_pos ⟨l4, Decidable.not_not.mp fun z => h1 (.inr (.inl z)), Decidable.not_not.mp fun z => h1 (.inr (.inr (.inl z))), Decidable.not_not.mp fun z => h1 (.inr (.inr (.inr z)))⟩]
    exact ⟨(by intro z; cases z), .tup (SqT.of upd_same) (.cons (.str _) (.cons (.str _) (.cons (.str _) (.cons (.str _) .nil))))⟩
end
end K14

set_option Elab.async false
set_option linter.all false
set_option maxRecDepth 100000
set_option maxHeartbeats 8000000
/-! Block codes, d: a flag's line -/
namespace K14
open PySem L2
section
variable {P : Program} {w : World} {K : PySem.W.Frag} {mg : Str → Option Value} {base : Heap}
theorem gn {i : Nat} {x : V} {σ : L2.St} {H : Hp} {Q : L2.St → Hp → Prop} (h : Q (σ.set i (some x)) H) : gName i x σ H Q := h
theorem fl_some {w : Str} : (!((flagM w).map Value.bool).isSome) = decide (flagM w = none) := by
  cases flagM w <;> simp
theorem scFlag : FnScope ["words", "which", "rest"] ["words"] (defScope sFlag) := ⟨rfl, rfl, rfl, by decide +kernel, rfl, by decide +kernel, by decide +kernel⟩
theorem ok_flag {f : Addr} {fd : FuncData} (F : Fun K "flag_step" "flag_step" sFlag f fd) (TN : TxtN mg) (T : TxtC K w mg) : FnOk P w K mg base CX0 1 f fd ["words"] (spWords K (fun ws => 1 ≤ ws.length) flagStepM) := by
  obtain ⟨c1, hc1, hC1⟩ := T.kn
  obtain ⟨c5, es5, n5, hc5, D5, hF5⟩ := T.fl
  refine F.ok scFlag (fun vs H Q E h => ?_) (fun cdv A outer s H vs Q E hr h => ?_)
  · obtain ⟨a, ws, rfl, _⟩ := h
    rfl
  · obtain ⟨a, ws, rfl, ha, hok, h2, hlen, k⟩ := h
    refine ⟨_, pss_cons (ps_set (i := 1) scFlag.nd rfl (Or.inl rfl) (pe_ifExp (pt_cmpR op_eq (pe_ix ix_list (pv 0) pe_int (fun _ _ => rfl)) pe_str (nomark _)) pe_str pe_str))
      (pss_cons (ps_set (i := 2) scFlag.nd rfl (Or.inl rfl) (pe_ifExp (pt_cmpR op_eq (pv 1) pe_str (nomark _)) (pe_slice sl_list (pv 0) (po_some pe_int) po_none) (pv 0)))
      (pss_cons (ps_if (PW.pt (pw_or (pt_cmpR op_ne (pe_callB call_len_seq (by rfl) TN.len PySem.boot_len (pa_cons (pv 2) pa_nil)) pe_int (nomark _)) (pw_or (pt_cmpR (op_notIn_kd D5) (pe_ix ix_list (pv 2) pe_int (fun _ _ => rfl)) (pe_glob (v := .ref c5) (by rfl) hc5 rfl) (by rfl)) (pw_or1 (pt_cmpR op_notIn_seq (pe_ix ix_list (pv 2) pe_int (fun _ _ => rfl)) (pe_glob (v := .ref c1) (by rfl) hc1 rfl) (by rfl)))))) (pss_one (ps_ret pe_non)) pss_nil)
      (pss_one (ps_ret (pe_tup (pa_cons pe_str (pa_cons (pe_ix ix_list (pv 2) pe_int (fun _ _ => rfl)) (pa_cons (pv 1) (pa_cons (pe_ix ix_kdict (pe_glob (v := .ref c5) (by rfl) hc5 rfl) (pe_ix ix_list (pv 2) pe_int (fun _ _ => rfl)) (fun _ _ => rfl)) pa_nil))))))))), ?_⟩
    refine ⟨_, rfl, a, _, 0, _, rfl, rfl, ha, wd_at (i := 0) (by omega), rfl, _, rfl, ?_⟩
    rw [dec_str]
    by_cases hp : wd ws 0 = "ahead"
    · rw [decide_eq_true hp]
      refine iteT ?_
      refine ⟨_, rfl, rfl, _, rfl, ifT3 (decide_eq_true rfl) ?_⟩
      refine ⟨_, rfl, _, rfl, a, _, rfl, ha, fun q nq => ?_⟩
      rw [show cutV (ws.map V.str) (some 1) none = (ws.drop 1).map V.str from cut_lo ws 1]
      have u1 := Same.new (o := .lst ((ws.drop 1).map V.str)) nq
      have hq : SqL K (upd H q (.lst ((ws.drop 1).map V.str))) q ((ws.drop 1).map V.str) := SqL.of upd_same
      have hM : flagStepM ws = if (ws.drop 1).length = 2 ∧ wd (ws.drop 1) 1 ∈ knownL then (flagM (wd (ws.drop 1) 0)).map fun u => .tuple [.str "flag", .str (wd (ws.drop 1) 1), .str "ahead", .bool u] else none := by
        unfold flagStepM
        simp only [if_pos hp]
      refine gn ?_
      dsimp only
      refine Says.ite (Says.or (fun Q h => ⟨_, rfl, q, _, rfl, .inl hq, rfl, _, rfl, by show Q (!decide (V.int _ = V.int ((2 : Nat) : Int))) _; rw [dec_len, ← decide_not]; exact h _ (Same.refl _)⟩) (fun G1 s1 h1 => (Says.or (fun Q h => ⟨_, rfl, q, _, 0, _, rfl, rfl, (s1.seq hq), wd_at (i := 0) (by omega), _, _, rfl, rfl, hF5 _, _, rfl, by rw [fl_some]; exact h _ (Same.refl _)⟩) (fun G2 s2 h2 => (fun Q h => ⟨_, rfl, q, _, 1, _, rfl, rfl, (s2.seq (s1.seq hq)), wd_at (i := 1) (by omega), c1, _, rfl, .inr (hC1 _), rfl, flat_str knownL, by rw [if_pos rfl, inV_str, ← decide_not]; exact ⟨_, rfl, h _ (Same.refl _)⟩⟩))))) (fun G2 t2 h2 => ?_) (fun G2 t2 h2 => ?_)
      · refine k .non _ (u1.trans t2) ?_
        rw [hM]
        by_cases c : (ws.drop 1).length = 2 ∧ wd (ws.drop 1) 1 ∈ knownL
        · rw [if_pos c]
          rcases h2 with y | y | y
          · exact absurd c.1 y
          · rw [show flagM (wd (ws.drop 1) 0) = none from y]
            rfl
          · exact absurd c.2 y
        · rw [if_neg c]
          rfl
      have l2 : (ws.drop 1).length = 2 := Decidable.not_not.mp fun z => h2 (.inl z)
      have l3 : wd (ws.drop 1) 1 ∈ knownL := Decidable.not_not.mp fun z => h2 (.inr (.inr z))
      obtain ⟨u, hu⟩ : ∃ u, flagM (wd (ws.drop 1) 0) = some u := by
        cases e : flagM (wd (ws.drop 1) 0) with
        | none => exact absurd (.inr (.inl e)) h2
        | some u => exact ⟨u, rfl⟩
      rw [if_pos ⟨l2, l3⟩, hu] at hM
      refine nxt ?_
      dsimp only
      have aR := t2.seq hq
      refine ⟨_, rfl, q, _, 1, _, rfl, rfl, aR, wd_at (i := 1) (by omega), _, rfl, _, rfl, q, _, 0, _, rfl, rfl, aR, wd_at (i := 0) (by omega), c5, _, .bl u, rfl, rfl, ⟨_, _, .bool u, D5.at_, D5.lit, (hF5 _).trans (by rw [hu]; rfl), rfl⟩, (by show 4 ≤ sizeLine; decide), fun p np => ?_⟩
      refine k _ _ (u1.trans (t2.trans (Same.new np))) ?_
      rw [hM]
      exact ⟨(by intro z; cases z), .tup (SqT.of upd_same) (.cons (.str _) (.cons (.str _) (.cons (.str _) (.cons (.bl _) .nil))))⟩
    · rw [decide_eq_false hp]
      refine iteF ?_
      refine ⟨_, rfl, rfl, _, rfl, ifF3 (by decide +kernel) ?_⟩
      have hM : flagStepM ws = if ws.length = 2 ∧ wd ws 1 ∈ knownL then (flagM (wd ws 0)).map fun u => .tuple [.str "flag", .str (wd ws 1), .str "used", .bool u] else none := by
        unfold flagStepM
        simp only [if_neg hp]
      refine ⟨_, rfl, ?_⟩
      have u1 := Same.refl H
      refine gn ?_
      dsimp only
      refine Says.ite (Says.or (fun Q h => ⟨_, rfl, a, _, rfl, .inl ha, rfl, _, rfl, by show Q (!decide (V.int _ = V.int ((2 : Nat) : Int))) _; rw [dec_len, ← decide_not]; exact h _ (Same.refl _)⟩) (fun G1 s1 h1 => (Says.or (fun Q h => ⟨_, rfl, a, _, 0, _, rfl, rfl, (s1.seq ha), wd_at (i := 0) (by omega), _, _, rfl, rfl, hF5 _, _, rfl, by rw [fl_some]; exact h _ (Same.refl _)⟩) (fun G2 s2 h2 => (fun Q h => ⟨_, rfl, a, _, 1, _, rfl, rfl, (s2.seq (s1.seq ha)), wd_at (i := 1) (by omega), c1, _, rfl, .inr (hC1 _), rfl, flat_str knownL, by rw [if_pos rfl, inV_str, ← decide_not]; exact ⟨_, rfl, h _ (Same.refl _)⟩⟩))))) (fun G2 t2 h2 => ?_) (fun G2 t2 h2 => ?_)
      · refine k .non _ (u1.trans t2) ?_
        rw [hM]
        by_cases c : (ws).length = 2 ∧ wd (ws) 1 ∈ knownL
        · rw [if_pos c]
          rcases h2 with y | y | y
          · exact absurd c.1 y
          · rw [show flagM (wd (ws) 0) = none from y]
            rfl
          · exact absurd c.2 y
        · rw [if_neg c]
          rfl
      have l2 : (ws).length = 2 := Decidable.not_not.mp fun z => h2 (.inl z)
      have l3 : wd (ws) 1 ∈ knownL := Decidable.not_not.mp fun z => h2 (.inr (.inr z))
      obtain ⟨u, hu⟩ : ∃ u, flagM (wd (ws) 0) = some u := by
        cases e : flagM (wd (ws) 0) with
        | none => exact absurd (.inr (.inl e)) h2
        | some u => exact ⟨u, rfl⟩
      rw [if_pos ⟨l2, l3⟩, hu] at hM
      refine nxt ?_
      dsimp only
      have aR := t2.seq ha
      refine ⟨_, rfl, a, _, 1, _, rfl, rfl, aR, wd_at (i := 1) (by omega), _, rfl, _, rfl, a, _, 0, _, rfl, rfl, aR, wd_at (i := 0) (by omega), c5, _, .bl u, rfl, rfl, ⟨_, _, .bool u, D5.at_, D5.lit, (hF5 _).trans (by rw [hu]; rfl), rfl⟩, (by show 4 ≤ sizeLine; decide), fun p np => ?_⟩
      refine k _ _ (u1.trans (t2.trans (Same.new np))) ?_
      rw [hM]
      exact ⟨(by intro z; cases z), .tup (SqT.of upd_same) (.cons (.str _) (.cons (.str _) (.cons (.str _) (.cons (.bl _) .nil))))⟩
end
end K14

set_option Elab.async false
set_option linter.all false
set_option maxRecDepth 100000
set_option maxHeartbeats 8000000
/-! Block codes, e: a line with a size -/
namespace K14
open PySem L2
section
variable {P : Program} {w : World} {K : PySem.W.Frag} {mg : Str → Option Value} {base : Heap}
def rNotKd (K : PySem.W.Frag) (d : Addr) : R2 := fun x y H Q => ∃ (z : Str) (r : Option Value), x = .str z ∧ y = .ref d ∧ PySem.W.nsIn K d z = some r ∧ Q (.bl (!r.isSome)) H
theorem cut_mn (ws : List Str) (i j : Nat) (h : j ≤ ws.length) (hi : i ≤ ws.length) : cutV (ws.map V.str) (some (i : Int)) (some (j : Int)) = ((ws.drop i).take (j - i)).map V.str := by
  unfold cutV
  rw [HT.sIx_nat, HT.sIx_nat, List.length_map, Nat.min_eq_left h, Nat.min_eq_left hi, List.map_take, List.map_drop]
theorem cut_tail (ws : List Str) (h : 2 ≤ ws.length) : cutV (ws.map V.str) (some (-2)) none = [wd ws (ws.length - 2), wd ws (ws.length - 1)].map V.str := by
  have e1 : HT.sIx (ws.map V.str).length 0 (some (-2)) = ws.length - 2 := by
    rw [List.length_map]
    show (if (-2 : Int) < 0 then ((-2 : Int) + (ws.length : Int)).toNat else min (-2 : Int).toNat ws.length) = ws.length - 2
    rw [if_pos (by decide)]
    omega
  unfold cutV
  rw [e1, HT.sIx_none, List.length_map, ← List.map_drop, ← List.map_take]
  have e2 := two_wd (ws := ws) (i := ws.length - 2) (by omega)
  rw [show ws.length - 2 + 1 = ws.length - 1 by omega] at e2
  rw [← e2, show ws.length - (ws.length - 2) = 2 by omega]
abbrev nmSized : List Str := ["words", "flags", "terms", "flag"]
theorem scSized : FnScope nmSized ["words"] (defScope sSized) := ⟨rfl, rfl, rfl, by decide +kernel, rfl, by decide +kernel, by decide +kernel⟩
theorem ok_sized {f fS : Addr} {fd fdS : FuncData} (F : Fun K "sized_step" "sized_step" sSized f fd) (TN : TxtN mg) (T : TxtC K w mg)
    (GS : FnOk P w K mg base CX0 3 fS fdS ["words", "names"] (spSum K)) (kS : PySem.W.keepIn K (.ref fS) = true) (bS : Binds K fdS ["words", "names"] []) (gS : mg "sum_in" = some (.ref fS)) : FnOk P w K mg base CX0 4 f fd ["words"] (spWords K (fun ws => 1 ≤ ws.length) sizedM) := by
  obtain ⟨c1, hc1, hC1⟩ := T.kn
  obtain ⟨c2, hc2, hC2⟩ := T.nm
  obtain ⟨c5, es5, n5, hc5, D5, hF5⟩ := T.fl
  refine F.ok scSized (fun vs H Q E h => ?_) (fun cdv A outer s H vs Q E hr h => ?_)
  · obtain ⟨a, ws, rfl, _⟩ := h
    rfl
  · obtain ⟨a, ws, rfl, ha, hok, h2, hlen, k⟩ := h
    refine ⟨_, pss_cons (ps_if (PW.pt (pw_or (pt_cmpR op_lt (pe_callB call_len_seq (by rfl) TN.len PySem.boot_len (pa_cons (pv 0) pa_nil)) pe_int (nomark _)) (pw_or (pt_cmpR op_notIn_seq (pe_ix ix_list (pv 0) pe_int (fun _ _ => rfl)) (pe_glob (v := .ref c1) (by rfl) hc1 rfl) (by rfl)) (pw_or1 (pt_cmpR op_ne (pe_ix ix_list (pv 0) pe_int (fun _ _ => rfl)) pe_str (nomark _)))))) (pss_one (ps_ret pe_non)) pss_nil)
      (pss_cons (ps_set (i := 1) scSized.nd rfl (Or.inl rfl) (pe_ifExp (pt_cmpR op_eq (pe_ix ix_list (pv 0) pe_int (fun _ _ => rfl)) pe_str (nomark _)) (pe_slice sl_list (pv 0) (po_some (pe_un un_neg pe_int)) po_none) (pe_lst pa_nil)))
      (pss_cons (ps_set (i := 2) scSized.nd rfl (Or.inl rfl) (pe_call GS hr rfl gS kS bS .nil pass0 (pa_cons (pe_slice sl_list (pv 0) (po_some pe_int) (po_some (pe_op op_sub (pe_callB call_len_seq (by rfl) TN.len PySem.boot_len (pa_cons (pv 0) pa_nil)) (pe_callB call_len_seq (by rfl) TN.len PySem.boot_len (pa_cons (pv 1) pa_nil))))) (pa_cons (pe_glob (v := .ref c2) (by rfl) hc2 rfl) pa_nil))))
      (pss_cons (ps_if (PW.pt (pw_or (pt_cmpR op_isN (pv 2) pe_non (nomark _)) (pw_or1 (pt_truth (pe_lc (own := [("flag", 3)]) (g := gName 3) (te := tVar 3) rfl scSized.nd (by exact pi_list (pv 1)) (blkOk_by (own := [("flag", 3)]) (N := nmSized) (sc := defScope sSized) (by decide +kernel)) (fun _ _ _ _ _ => pg_name (i := 3) scSized.nd rfl (Or.inl rfl)) (fun _ _ _ _ _ => pts_one (pt_cmpR (show OpR _ _ (rNotKd K c5) from op_notIn_kd D5) (pv 3) (pe_glob (v := .ref c5) (by rfl) hc5 rfl) (by rfl))) (fun _ _ _ _ _ => pv 3)) (by intro _; rfl))))) (pss_one (ps_ret pe_non)) pss_nil)
      (pss_cons (ps_if (pt_cmpR op_eq (pe_ix ix_list (pv 0) pe_int (fun _ _ => rfl)) pe_str (nomark _)) (pss_one (ps_ret (pe_tup (pa_cons pe_str (pa_cons (pe_ix ix_list (pv 0) pe_int (fun _ _ => rfl)) (pa_cons (pv 2) (pa_cons (pe_ix ix_kdict (pe_glob (v := .ref c5) (by rfl) hc5 rfl) (pe_ix ix_list (pv 1) pe_int (fun _ _ => rfl)) (fun _ _ => rfl)) (pa_cons (pe_ix ix_kdict (pe_glob (v := .ref c5) (by rfl) hc5 rfl) (pe_ix ix_list (pv 1) pe_int (fun _ _ => rfl)) (fun _ _ => rfl)) pa_nil)))))))) pss_nil)
      (pss_one (ps_ret (pe_tup (pa_cons (pe_ifExp (pt_cmpR op_eq (pe_ix ix_list (pv 0) pe_int (fun _ _ => rfl)) pe_str (nomark _)) pe_str pe_str) (pa_cons (pe_ix ix_list (pv 0) pe_int (fun _ _ => rfl)) (pa_cons (pv 2) pa_nil)))))))))), ?_⟩
    refine Says.ite (Says.or (fun Q h => ⟨_, rfl, a, _, rfl, .inl ha, _, _, rfl, rfl, _, rfl, by show Q (decide ((((ws.map V.str).length : Nat) : Int) < ((4 : Nat) : Int))) _; rw [dec_lt]; exact h _ (Same.refl _)⟩) (fun G1 s1 h1 => (Says.or (fun Q h => ⟨_, rfl, a, _, 1, _, rfl, rfl, (s1.seq ha), wd_at (i := 1) (by omega), c1, _, rfl, .inr (hC1 _), rfl, flat_str knownL, by rw [if_pos rfl, inV_str, ← decide_not]; exact ⟨_, rfl, h _ (Same.refl _)⟩⟩) (fun G2 s2 h2 => (fun Q h => ⟨_, rfl, a, _, 2, _, rfl, rfl, (s2.seq (s1.seq ha)), wd_at (i := 2) (by omega), rfl, _, rfl, by rw [dec_str, ← decide_not]; exact h _ (Same.refl _)⟩))))) (fun G1 t1 h1 => ?_) (fun G1 t1 h1 => ?_)
    · exact k .non _ t1 (by unfold sizedM; rw [if_pos h1]; rfl)
    have l4 : 4 ≤ ws.length := Nat.le_of_not_lt fun z => h1 (.inl z)
    have a1 := t1.seq ha
    refine nxt ?_
    dsimp only
    refine ⟨_, rfl, a, _, 0, _, rfl, rfl, a1, wd_at (i := 0) (by omega), rfl, _, rfl, ?_⟩
    rw [dec_str]
    by_cases hp : wd ws 0 = "head"
    · rw [decide_eq_true hp]
      have hM : sizedM ws = headM (wd ws 1) (sumM ((ws.drop 3).take (ws.length - 5)) namesL) (flagM (wd ws (ws.length - 2))) (flagM (wd ws (ws.length - 1))) := by
        unfold sizedM
        rw [if_neg h1, if_pos hp]
      refine iteT ?_
      refine ⟨_, rfl, 2, rfl, _, rfl, a, _, rfl, a1, fun q nq => ?_⟩
      rw [cut_tail ws (by omega)]
      have u1 := Same.new (o := .lst ([wd ws (ws.length - 2), wd ws (ws.length - 1)].map V.str)) nq
      refine gn ?_
      dsimp only
      refine ⟨_, rfl, _, rfl, _, rfl, a, _, rfl, .inl (u1.seq a1), _, rfl, q, _, rfl, .inl (SqL.of upd_same), _, _, rfl, rfl, _, rfl, a, _, rfl, u1.seq a1, fun q2 nq2 => ?_⟩
      have eJ : (((ws.map V.str).length : Nat) : Int) - (2 : Int) = ((ws.length - 2 : Nat) : Int) := by rw [List.length_map]; omega
      have sl : cutV (ws.map V.str) (some 3) (some ((((ws.map V.str).length : Nat) : Int) - 2)) = ((ws.drop 3).take (ws.length - 5)).map V.str := by
        rw [eJ, show ws.length - 5 = ws.length - 2 - 3 by omega]
        exact cut_mn ws 3 (ws.length - 2) (by omega) (by omega)
      have sl2 : cutV (ws.map V.str) (some 3) (some ((((ws.map V.str).length : Nat) : Int) - ((([wd ws (ws.length - 2), wd ws (ws.length - 1)].map V.str).length : Nat) : Int))) = ((ws.drop 3).take (ws.length - 5)).map V.str := sl
      rw [sl2]
      have u2 := Same.new (o := .lst (((ws.drop 3).take (ws.length - 5)).map V.str)) nq2
      have wok3 : WsOk ((ws.drop 3).take (ws.length - 5)) := fun w hw => hok w (List.mem_of_mem_drop (List.mem_of_mem_take hw))
      refine ⟨q2, c2, (ws.drop 3).take (ws.length - 5), namesL, rfl, SqL.of upd_same, hC2 _, wok3.two, by rw [List.length_take, List.length_drop]; omega, fun v G4 s4 res => ?_⟩
      have sA := u1.trans (u2.trans s4)
      have gq : G4 q = some (.lst ([wd ws (ws.length - 2), wd ws (ws.length - 1)].map V.str)) := (u2.trans s4) _ _ upd_same
      have aA := sA.seq a1
      refine gn ?_
      dsimp only
      refine ⟨_, rfl, rfl, _, rfl, ?_⟩
      cases o : sumM ((ws.drop 3).take (ws.length - 5)) namesL with
      | none =>
        rw [o] at res hM
        have rv : v = .non := res
        subst rv
        refine iteT ?_
        exact iteT (k _ _ (t1.trans sA) (by rw [hM]; rfl))
      | some acc =>
        rw [o] at res hM
        refine ifF3 (decide_eq_false res.1) ?_
        refine ⟨_, rfl, q, rfl, ⟨_, SqL.of gq⟩, fun A0 nA => ?_⟩
        have bad : ∀ (x : Str), (!((flagM x).map Value.bool).isSome) = decide (flagM x = none) := fun x => fl_some
        refine lc_list (K := K) (a := q) (xs := [wd ws (ws.length - 2), wd ws (ws.length - 1)].map V.str) (fun i G => Same G4 G ∧ G A0 = some (.lst (((([wd ws (ws.length - 2), wd ws (ws.length - 1)] : List Str).take i).filter fun x => decide (flagM x = none)).map V.str))) ⟨Same.new nA, upd_same⟩ (fun i G _ hp => SqL.of (hp.1 _ _ gq)) ?_ ?_
        · rintro i x G hx ⟨sG, gA⟩
          rw [List.getElem?_map] at hx
          obtain ⟨y, hy, rfl⟩ := Option.map_eq_some_iff.mp hx
          refine ⟨rfl, ?_⟩
          refine ⟨_, rfl, y, _, rfl, rfl, hF5 y, _, rfl, ?_⟩
          rw [bad]
          have tk := take_more hy
          by_cases c : flagM y = none
          · rw [decide_eq_true c]
            refine iteT ⟨_, rfl, _, gA, ?_, Same.write sG nA, ?_⟩
            · rw [List.length_map]
              exact Nat.lt_of_le_of_lt (Nat.le_trans (List.length_filter_le _ _) (Nat.le_trans (List.length_take_le _ _) (show i ≤ 1000 by
                have := (List.getElem?_eq_some_iff.mp hy).1
                simp at this
                omega))) (by decide)
            · rw [tk, List.filter_append, List.map_append, upd_same]
              simp [c]
          · rw [decide_eq_false c]
            refine iteF ⟨sG, ?_⟩
            rw [tk, List.filter_append, gA]
            simp [c]
        rintro GX ⟨sX, gX⟩
        have full : (([wd ws (ws.length - 2), wd ws (ws.length - 1)] : List Str).take ([wd ws (ws.length - 2), wd ws (ws.length - 1)].map V.str).length) = [wd ws (ws.length - 2), wd ws (ws.length - 1)] := rfl
        rw [full] at gX
        by_cases cu : flagM (wd ws (ws.length - 2)) = none
        · refine ⟨true, .inl ⟨_, SqL.of gX, by simp [cu]⟩, ?_⟩
          exact iteT (k _ _ (t1.trans (sA.trans sX)) (by rw [hM, cu]; rfl))
        by_cases cv : flagM (wd ws (ws.length - 1)) = none
        · refine ⟨true, .inl ⟨_, SqL.of gX, by simp [cu, cv]⟩, ?_⟩
          exact iteT (k _ _ (t1.trans (sA.trans sX)) (by rw [hM, cv]; cases flagM (wd ws (ws.length - 2)) <;> rfl))
        refine ⟨false, .inl ⟨_, SqL.of gX, by simp [cu, cv]⟩, iteF ?_⟩
        obtain ⟨bu, hu⟩ := Option.ne_none_iff_exists'.mp cu
        obtain ⟨bv, hv⟩ := Option.ne_none_iff_exists'.mp cv
        rw [hu, hv] at hM
        have aX := sX.seq aA
        have qX := SqL.of (K := K) (sX _ _ gq)
        have kd : ∀ (x : Str) (b : Bool), flagM x = some b → KDct K w c5 x (.bl b) := fun x b e => ⟨_, _, .bool b, D5.at_, D5.lit, (hF5 _).trans (by rw [e]; rfl), rfl⟩
        refine nxt ?_
        dsimp only
        refine ⟨_, rfl, a, _, 0, _, rfl, rfl, aX, wd_at (i := 0) (by omega), rfl, _, rfl, ?_⟩
        rw [dec_str, decide_eq_true hp]
        refine iteT ?_
        refine ⟨_, rfl, a, _, 1, _, rfl, rfl, aX, wd_at (i := 1) (by omega), _, rfl, _, rfl, q, _, 0, _, rfl, rfl, qX, atI_nat (j := 0) rfl, c5, _, _, rfl, rfl, kd _ _ hu, _, rfl, q, _, 1, _, rfl, rfl, qX, atI_nat (j := 1) rfl, c5, _, _, rfl, rfl, kd _ _ hv, (by show 5 ≤ sizeLine; decide), fun p np => ?_⟩
        refine k _ _ (t1.trans (sA.trans (sX.trans (Same.new np)))) ?_
        rw [hM]
        exact ⟨(by intro z; cases z), .tup (SqT.of upd_same) (.cons (.str _) (.cons (.str _) (.cons ((res.2.keep (Same.tk sX)).keep (Same.tk (Same.new np))) (.cons (.bl _) (.cons (.bl _) .nil)))))⟩
    · rw [decide_eq_false hp]
      have hM : sizedM ws = (sumM (ws.drop 3) namesL).map fun acc => .tuple [.str (if wd ws 0 = "size" then "resize" else "foot"), .str (wd ws 1), sumD acc] := by
        unfold sizedM
        rw [if_neg h1, if_neg hp]
      refine iteF ?_
      refine ⟨(by show 0 ≤ sizeLine; decide), fun q nq => ?_⟩
      have u1 := Same.new (o := .lst []) nq
      refine gn ?_
      dsimp only
      refine ⟨_, rfl, _, rfl, _, rfl, a, _, rfl, .inl (u1.seq a1), _, rfl, q, _, rfl, .inl (SqL.of upd_same), _, _, rfl, rfl, _, rfl, a, _, rfl, u1.seq a1, fun q2 nq2 => ?_⟩
      have sl2 : cutV (ws.map V.str) (some 3) (some ((((ws.map V.str).length : Nat) : Int) - ((([] : List V).length : Nat) : Int))) = (ws.drop 3).map V.str := by
        have e := cut_mn ws 3 ws.length (Nat.le_refl _) (by omega)
        rw [List.take_of_length_le (by rw [List.length_drop]; exact Nat.le_refl _)] at e
        rw [← e, List.length_map]
        show cutV _ _ (some ((ws.length : Int) - 0)) = _
        rw [Int.sub_zero]
        rfl
      rw [sl2]
      have u2 := Same.new (o := .lst ((ws.drop 3).map V.str)) nq2
      have wok3 : WsOk (ws.drop 3) := fun w hw => hok w (List.mem_of_mem_drop hw)
      refine ⟨q2, c2, ws.drop 3, namesL, rfl, SqL.of upd_same, hC2 _, wok3.two, by rw [List.length_drop]; omega, fun v G4 s4 res => ?_⟩
      have sA := u1.trans (u2.trans s4)
      have gq : G4 q = some (.lst []) := (u2.trans s4) _ _ upd_same
      have aA := sA.seq a1
      refine gn ?_
      dsimp only
      refine ⟨_, rfl, rfl, _, rfl, ?_⟩
      cases o : sumM (ws.drop 3) namesL with
      | none =>
        rw [o] at res hM
        have rv : v = .non := res
        subst rv
        refine iteT ?_
        exact iteT (k _ _ (t1.trans sA) (by rw [hM]; rfl))
      | some acc =>
        rw [o] at res hM
        refine ifF3 (decide_eq_false res.1) ?_
        refine ⟨_, rfl, q, rfl, ⟨_, SqL.of gq⟩, fun A0 nA => ?_⟩
        refine lc_list (K := K) (a := q) (xs := []) (fun i G => Same G4 G ∧ G A0 = some (.lst [])) ⟨Same.new nA, upd_same⟩ (fun i G _ hp => SqL.of (hp.1 _ _ gq)) ?_ ?_
        · rintro i x G hx _
          cases hx
        rintro GX ⟨sX, gX⟩
        refine ⟨false, .inl ⟨_, SqL.of gX, rfl⟩, iteF ?_⟩
        have aX := sX.seq aA
        refine nxt ?_
        dsimp only
        refine ⟨_, rfl, a, _, 0, _, rfl, rfl, aX, wd_at (i := 0) (by omega), rfl, _, rfl, ?_⟩
        rw [dec_str, decide_eq_false hp]
        refine iteF ?_
        refine nxt ?_
        dsimp only
        have tail : ∀ x : Str, x = (if wd ws 0 = "size" then ("resize" : Str) else "foot") → ∀ p, GX p = none → ResD K (upd GX p (.tup [.str x, .str (wd ws 1), v])) (.ref p) (sizedM ws) := fun x e p np => by
          rw [hM, e]
          exact ⟨(by intro z; cases z), .tup (SqT.of upd_same) (.cons (.str _) (.cons (.str _) (.cons ((res.2.keep (Same.tk sX)).keep (Same.tk (Same.new np))) .nil)))⟩
        refine ⟨_, rfl, a, _, 0, _, rfl, rfl, aX, wd_at (i := 0) (by omega), rfl, _, rfl, ?_⟩
        rw [dec_str]
        by_cases hz : wd ws 0 = "size"
        · rw [decide_eq_true hz]
          refine iteT ⟨_, rfl, a, _, 1, _, rfl, rfl, aX, wd_at (i := 1) (by omega), _, rfl, (by show 3 ≤ sizeLine; decide), fun p np => ?_⟩
          exact k _ _ (t1.trans (sA.trans (sX.trans (Same.new np)))) (tail _ (if_pos hz).symm p np)
        · rw [decide_eq_false hz]
          refine iteF ⟨_, rfl, a, _, 1, _, rfl, rfl, aX, wd_at (i := 1) (by omega), _, rfl, (by show 3 ≤ sizeLine; decide), fun p np => ?_⟩
          exact k _ _ (t1.trans (sA.trans (sX.trans (Same.new np)))) (tail _ (if_neg hz).symm p np)
end
end K14

set_option Elab.async false
set_option linter.all false
set_option maxRecDepth 100000
set_option maxHeartbeats 8000000
/-! Block codes, f: a line, a part of a test -/
namespace K14
open PySem PySem.Spec PyProof.Rows L2
section
variable {P : Program} {w : World} {K : PySem.W.Frag} {mg : Str → Option Value} {base : Heap}
def SaysV (A : TE) (σ : L2.St) (H : Hp) (x : V) : Prop := ∀ Q : VK, (∀ G, Same H G → Q x G) → A σ H Q
/-- words i to j, and whether they are those -/
theorem slice_says {a : Addr} {ws xs : List Str} {σ : L2.St} {H : Hp} {te : TE} {ta : TA} {lo hi : Option Int} {ys : List Str} (ha : SqL K H a (ws.map V.str)) (hok : WsOk ys) (hc : cutV (ws.map V.str) lo hi = ys.map V.str) (hl : xs.length ≤ sizeLine) (hs : SeqAt.shaped (.list (xs.map PyData.str)) = true)
    (ht : ∀ Q : VK, (∀ q, H q = none → Q (.ref q) (upd H q (.lst (cutV (ws.map V.str) lo hi)))) → te σ H Q)
    (hx : ∀ (G : Hp) (Q : List V → Hp → Prop), Q (xs.map V.str) G → ta σ G Q) : Says (tTest (tOp (rEqD K) te (tLst ta))) σ H (ys = xs) := fun Q h => ht _ fun q nq => hx _ _ (by
  refine ⟨by rw [List.length_map]; exact hl, fun p np => ?_⟩
  have u1 := Same.new (o := .lst (cutV (ws.map V.str) lo hi)) nq
  have u2 := Same.new (o := .lst (xs.map V.str)) np
  have g1 := u2 _ _ (upd_same (H := H) (a := q) (o := .lst (cutV (ws.map V.str) lo hi)))
  have g2 := g1.trans (congrArg (fun z => some (HO.lst z)) hc)
  refine ⟨.list (ys.map PyData.str), .list (xs.map PyData.str), .lst (SqL.of g2) (dpWs _), .lst (SqL.of upd_same) (dpWs _), shapedWs hok, hs, ?_⟩
  rw [eqvL]
  exact ⟨_, rfl, h _ (u1.trans u2)⟩)
theorem cut_12 (ws : List Str) : cutV (ws.map V.str) (some 1) (some 2) = ((ws.drop 1).take 1).map V.str := by
  match ws with
  | [] => rfl
  | [x] => rfl
  | x :: y :: r =>
    have e := cut_mn (x :: y :: r) 1 2 (by simp) (by simp)
    exact e
theorem one_eq {ws : List Str} {x : Str} : (ws.drop 1).take 1 = [x] ↔ 2 ≤ ws.length ∧ wd ws 1 = x := by
  match ws with
  | [] => simp [wd]
  | [y] => simp [wd]
  | y :: z :: r => simp [wd]
theorem scStep : FnScope ["words", "kind"] ["words", "kind"] (defScope sStep) := ⟨rfl, rfl, rfl, by decide +kernel, rfl, by decide +kernel, by decide +kernel⟩
theorem ok_step {f f1 f2 f3 f4 f5 : Addr} {fd fd1 fd2 fd3 fd4 fd5 : FuncData} (F : Fun K "block_step_in" "block_step_in" sStep f fd) (TN : TxtN mg) (T : TxtC K w mg)
    (GR : FnOk P w K mg base CX0 4 f1 fd1 ["words"] (spWords K (fun ws => 2 ≤ ws.length) regM)) (kR : PySem.W.keepIn K (.ref f1) = true) (bR : Binds K fd1 ["words"] []) (gR : mg "register_step" = some (.ref f1))
    (GP : FnOk P w K mg base CX0 4 f2 fd2 ["words"] (spWords K (fun ws => 2 ≤ ws.length) placeM)) (kP : PySem.W.keepIn K (.ref f2) = true) (bP : Binds K fd2 ["words"] []) (gP : mg "place_step" = some (.ref f2))
    (GS : FnOk P w K mg base CX0 4 f3 fd3 ["words"] (spWords K (fun ws => 1 ≤ ws.length) sizedM)) (kS : PySem.W.keepIn K (.ref f3) = true) (bS : Binds K fd3 ["words"] []) (gS : mg "sized_step" = some (.ref f3))
    (GF : FnOk P w K mg base CX0 1 f4 fd4 ["words"] (spWords K (fun ws => 1 ≤ ws.length) flagStepM)) (kF : PySem.W.keepIn K (.ref f4) = true) (bF : Binds K fd4 ["words"] []) (gF : mg "flag_step" = some (.ref f4))
    (GT : FnOk P w K mg base CX0 1 f5 fd5 ["words"] (spWords K (fun ws => 1 ≤ ws.length) tieM)) (kT : PySem.W.keepIn K (.ref f5) = true) (bT : Binds K fd5 ["words"] []) (gT : mg "tie_step" = some (.ref f5)) :
    FnOk P w K mg base CX0 5 f fd ["words", "kind"] (spStepIn K kindsL stepM) := by
  obtain ⟨c1, hc1, hC1⟩ := T.rg
  obtain ⟨c2, hc2, hC2⟩ := T.pl
  obtain ⟨c3, hc3, hC3⟩ := T.ln
  refine F.ok scStep (fun vs H Q E h => ?_) (fun cdv A outer s H vs Q E hr h => ?_)
  · obtain ⟨a, ws, kd, rfl, _⟩ := h
    rfl
  · obtain ⟨a, ws, kd, rfl, hkd, ha, hok, hne, hlen, k⟩ := h
    have hr1 : Room 1 _ := hr.mono (by decide)
    have room : (A.deeper (envOfC "block_step_in" (defScope sStep) s.heap.objs.size f cdv)).units + 65 < cLine := by have := hr.un; omega
    have l1 : 1 ≤ ws.length := List.length_pos_iff.mpr hne
    refine ⟨_, pss_cons (ps_if (pt_cmpR (op_inDT room) (pv 0) (pe_tup (pa_cons (pe_lst (pa_cons pe_str pa_nil)) (pa_cons (pe_lst (pa_cons pe_str pa_nil)) pa_nil))) (by rfl)) (pss_one (ps_ret (pe_tup (pa_cons (pe_ix ix_list (pv 0) pe_int (fun _ _ => rfl)) pa_nil)))) pss_nil)
      (pss_cons (ps_if (pt_cmpR (op_eqD hr.units) (pe_slice sl_list (pv 0) (po_some pe_int) (po_some pe_int)) (pe_lst (pa_cons pe_str pa_nil)) (nomark _)) (pss_cons (ps_if (pt_cmpR op_in_seq (pe_ix ix_list (pv 0) pe_int (fun _ _ => rfl)) (pe_glob (v := .ref c1) (by rfl) hc1 rfl) (by rfl)) (pss_one (ps_ret (pe_call GR hr rfl gR kR bR .nil pass0 (pa_cons (pv 0) pa_nil)))) pss_nil)
      (pss_one (ps_ret (pe_ifExp (pt_cmpR op_in_seq (pe_ix ix_list (pv 0) pe_int (fun _ _ => rfl)) (pe_glob (v := .ref c2) (by rfl) hc2 rfl) (by rfl)) (pe_call GP hr rfl gP kP bP .nil pass0 (pa_cons (pv 0) pa_nil)) pe_non)))) pss_nil)
      (pss_cons (ps_if (pt_cmpR op_in_seq (pe_ix ix_list (pv 0) pe_int (fun _ _ => rfl)) (pe_tup (pa_cons pe_str (pa_cons pe_str (pa_cons pe_str pa_nil)))) (by rfl)) (pss_one (ps_ret (pe_call GS hr rfl gS kS bS .nil pass0 (pa_cons (pv 0) pa_nil)))) pss_nil)
      (pss_cons (ps_if (pt_cmpR op_in_seq (pe_ix ix_list (pv 0) pe_int (fun _ _ => rfl)) (pe_tup (pa_cons pe_str (pa_cons pe_str (pa_cons pe_str pa_nil)))) (by rfl)) (pss_one (ps_ret (pe_call GF hr1 rfl gF kF bF .nil pass0 (pa_cons (pv 0) pa_nil)))) pss_nil)
      (pss_one (ps_ret (pe_ifExp (pt_cmpR op_in_seq (pe_ix ix_list (pv 0) pe_int (fun _ _ => rfl)) (pe_glob (v := .ref c3) (by rfl) hc3 rfl) (by rfl)) (pe_call GT hr1 rfl gT kT bT .nil pass0 (pa_cons (pv 0) pa_nil)) pe_non)))))), ?_⟩
    refine Says.ite (p := ws = [("quit" : Str)] ∨ ws = [("no" : Str)]) (fun Q h => ⟨_, rfl, (by show 1 ≤ sizeLine; decide), fun q1 n1 => ⟨(by show 1 ≤ sizeLine; decide), fun q2 n2 => ⟨(by show 2 ≤ sizeLine; decide), fun q3 n3 => ?_⟩⟩⟩) (fun G1 t1 h1 => ?_) (fun G1 t1 h1 => ?_)
    · have u1 := Same.new (o := .lst [.str "quit"]) n1
      have u2 := Same.new (o := .lst [.str "no"]) n2
      have u3 := Same.new (o := .tup [.ref q1, .ref q2]) n3
      have uA := u1.trans (u2.trans u3)
      refine ⟨.list (ws.map PyData.str), [.list ([("quit" : Str)].map PyData.str), .list ([("no" : Str)].map PyData.str)], .lst (uA.seq ha) (dpWs _), .tup (.inl (.inl upd_same)) (.cons (.lst (SqL.of (xs := [("quit" : Str)].map V.str) ((u2.trans u3) _ _ upd_same)) (dpWs _)) (.cons (.lst (SqL.of (xs := [("no" : Str)].map V.str) (u3 _ _ upd_same)) (dpWs _)) .nil)), shapedWs hok, by decide +kernel, ?_⟩
      refine ⟨_, rfl, ?_⟩
      have e : ([PyData.list ([("quit" : Str)].map PyData.str), .list ([("no" : Str)].map PyData.str)].any fun z => PyData.eqv z (.list (ws.map PyData.str))) = decide (ws = [("quit" : Str)] ∨ ws = [("no" : Str)]) := by
        simp only [List.any_cons, List.any_nil, Bool.or_false, eqvL]
        rw [← Bool.decide_or]
        exact decide_eq_decide.mpr ⟨fun z => z.imp Eq.symm Eq.symm, fun z => z.imp Eq.symm Eq.symm⟩
      rw [e]
      exact h _ uA
    · refine ⟨_, rfl, a, _, 0, _, rfl, rfl, t1.seq ha, wd_at (i := 0) (by omega), (by show 1 ≤ sizeLine; decide), fun p np => ?_⟩
      refine k _ _ (t1.trans (Same.new np)) ?_
      unfold stepM
      rw [if_pos h1]
      exact ⟨(by intro z; cases z), .tup (SqT.of upd_same) (.cons (.str _) .nil)⟩
    have a1 := t1.seq ha
    refine nxt ?_
    dsimp only
    have wok1 : WsOk ((ws.drop 1).take 1) := fun w hw => hok w (List.mem_of_mem_drop (List.mem_of_mem_take hw))
    refine Says.ite (p := (ws.drop 1).take 1 = [("=" : Str)]) (slice_says (xs := [("=" : Str)]) a1 wok1 (cut_12 ws) (by decide) (by decide +kernel) (fun Q h => ⟨_, rfl, _, rfl, _, rfl, a, _, rfl, a1, h⟩) (fun G Q h => h)) (fun G2 t2 h2 => ?_) (fun G2 t2 h2 => ?_)
    · have l2 := one_eq.mp h2
      have a2 := t2.seq a1
      refine Says.ite (fun Q h => ⟨_, rfl, a, _, 0, _, rfl, rfl, a2, wd_at (i := 0) (by omega), c1, _, rfl, .inr (hC1 _), rfl, flat_str regsL, by rw [if_neg Bool.false_ne_true, inV_str]; exact ⟨_, rfl, h _ (Same.refl _)⟩⟩) (fun G3 t3 h3 => ?_) (fun G3 t3 h3 => ?_)
      · have hM : stepM kd ws = regM ws := by
          unfold stepM
          rw [if_neg h1, if_pos l2, if_pos h3]
        exact ⟨_, rfl, a, ws, rfl, t3.seq a2, hok, l2.1, hlen, fun v G s res => k v G ((t1.trans (t2.trans t3)).trans s) (by rw [hM]; exact res)⟩
      refine nxt ?_
      dsimp only
      refine (show Says _ _ _ (wd ws 0 ∈ placesL) from (fun Q h => ⟨_, rfl, a, _, 0, _, rfl, rfl, (t3.seq a2), wd_at (i := 0) (by omega), c2, _, rfl, .inr (hC2 _), rfl, flat_str placesL, by rw [if_neg Bool.false_ne_true, inV_str]; exact ⟨_, rfl, h _ (Same.refl _)⟩⟩)) _ fun G4 t4 => ?_
      by_cases h4 : wd ws 0 ∈ placesL
      · have hM : stepM kd ws = placeM ws := by
          unfold stepM
          rw [if_neg h1, if_pos l2, if_neg h3, if_pos h4]
        rw [decide_eq_true h4]
        exact iteT ⟨_, rfl, a, ws, rfl, (t3.trans t4).seq a2, hok, l2.1, hlen, fun v G s res => k v G ((t1.trans (t2.trans (t3.trans t4))).trans s) (by rw [hM]; exact res)⟩
      · rw [decide_eq_false h4]
        refine iteF (k _ _ (t1.trans (t2.trans (t3.trans t4))) ?_)
        unfold stepM
        rw [if_neg h1, if_pos l2, if_neg h3, if_neg h4]
        rfl
    have n2 : ¬ (2 ≤ ws.length ∧ wd ws 1 = "=") := fun z => h2 (one_eq.mpr z)
    have a2 := t2.seq a1
    refine nxt ?_
    dsimp only
    refine Says.ite (fun Q h => ⟨_, rfl, a, _, 0, _, rfl, rfl, a2, wd_at (i := 0) (by omega), (by show 3 ≤ sizeLine; decide), fun qq nqq => ⟨qq, _, rfl, .inr (SqT.of upd_same), rfl, flat_str [("head" : Str), ("size" : Str), ("foot" : Str)], by rw [if_neg Bool.false_ne_true]; exact ⟨_, rfl, by show Q (inV (V.str _) ([("head" : Str), ("size" : Str), ("foot" : Str)].map V.str)) _; rw [inV_str]; exact h _ (Same.new nqq)⟩⟩⟩) (fun G3 t3 h3 => ?_) (fun G3 t3 h3 => ?_)
    · have hM : stepM kd ws = sizedM ws := by
        unfold stepM
        rw [if_neg h1, if_neg n2, if_pos h3]
      exact ⟨_, rfl, a, ws, rfl, t3.seq a2, hok, l1, hlen, fun v G s res => k v G ((t1.trans (t2.trans t3)).trans s) (by rw [hM]; exact res)⟩
    have a3 := t3.seq a2
    refine nxt ?_
    dsimp only
    refine Says.ite (fun Q h => ⟨_, rfl, a, _, 0, _, rfl, rfl, a3, wd_at (i := 0) (by omega), (by show 3 ≤ sizeLine; decide), fun qq nqq => ⟨qq, _, rfl, .inr (SqT.of upd_same), rfl, flat_str [("used" : Str), ("free" : Str), ("ahead" : Str)], by rw [if_neg Bool.false_ne_true]; exact ⟨_, rfl, by show Q (inV (V.str _) ([("used" : Str), ("free" : Str), ("ahead" : Str)].map V.str)) _; rw [inV_str]; exact h _ (Same.new nqq)⟩⟩⟩) (fun G4 t4 h4 => ?_) (fun G4 t4 h4 => ?_)
    · have hM : stepM kd ws = flagStepM ws := by
        unfold stepM
        rw [if_neg h1, if_neg n2, if_neg h3, if_pos h4]
      exact ⟨_, rfl, a, ws, rfl, t4.seq a3, hok, l1, hlen, fun v G s res => k v G ((t1.trans (t2.trans (t3.trans t4))).trans s) (by rw [hM]; exact res)⟩
    have a4 := t4.seq a3
    refine nxt ?_
    dsimp only
    refine (show Says _ _ _ (wd ws 0 ∈ linksL) from (fun Q h => ⟨_, rfl, a, _, 0, _, rfl, rfl, a4, wd_at (i := 0) (by omega), c3, _, rfl, .inr (hC3 _), rfl, flat_str linksL, by rw [if_neg Bool.false_ne_true, inV_str]; exact ⟨_, rfl, h _ (Same.refl _)⟩⟩)) _ fun G5 t5 => ?_
    by_cases h5 : wd ws 0 ∈ linksL
    · have hM : stepM kd ws = tieM ws := by
        unfold stepM
        rw [if_neg h1, if_neg n2, if_neg h3, if_neg h4, if_pos h5]
      rw [decide_eq_true h5]
      exact iteT ⟨_, rfl, a, ws, rfl, t5.seq a4, hok, l1, hlen, fun v G s res => k v G ((t1.trans (t2.trans (t3.trans (t4.trans t5)))).trans s) (by rw [hM]; exact res)⟩
    · rw [decide_eq_false h5]
      refine iteF (k _ _ (t1.trans (t2.trans (t3.trans (t4.trans t5)))) ?_)
      unfold stepM
      rw [if_neg h1, if_neg n2, if_neg h3, if_neg h4, if_neg h5]
      rfl
end
end K14

set_option Elab.async false
set_option linter.all false
set_option maxRecDepth 100000
set_option maxHeartbeats 8000000
/-! Block codes, g: a part of a test -/
namespace K14
open PySem L2
section
variable {P : Program} {w : World} {K : PySem.W.Frag} {mg : Str → Option Value} {base : Heap}
theorem scHPart : FnScope ["words", "kind"] ["words", "kind"] (defScope sHPart) := ⟨rfl, rfl, rfl, by decide +kernel, rfl, by decide +kernel, by decide +kernel⟩
theorem head_two {ws : List Str} {x y : Str} (h : ws.length = 3) : ws.take 2 = [x, y] ↔ wd ws 0 = x ∧ wd ws 1 = y := by
  match ws, h with
  | [a, b, c], _ => simp [wd]
theorem tail_two {ws : List Str} {x y : Str} (h : ws.length = 3) : ws.drop 1 = [x, y] ↔ wd ws 1 = x ∧ wd ws 2 = y := by
  match ws, h with
  | [a, b, c], _ => simp [wd]
theorem ok_hpart {f fC : Addr} {fd fdC : FuncData} (F : Fun K "block_part_in" "block_part_in" sHPart f fd) (TN : TxtN mg) (T : TxtC K w mg)
    (GC : FnOk P w K mg base CX0 3 fC fdC ["words", "names"] (spComp K)) (kC : PySem.W.keepIn K (.ref fC) = true) (bC : Binds K fdC ["words", "names"] []) (gC : mg "comparison_in" = some (.ref fC)) :
    FnOk P w K mg base CX0 4 f fd ["words", "kind"] (spPartIn K kindsL hPartM) := by
  obtain ⟨c1, hc1, hC1⟩ := T.kn
  obtain ⟨c2, hc2, hC2⟩ := T.nm
  refine F.ok scHPart (fun vs H Q E h => ?_) (fun cdv A outer s H vs Q E hr h => ?_)
  · obtain ⟨a, ws, kd, rfl, _⟩ := h
    rfl
  · obtain ⟨a, ws, kd, rfl, hkd, ha, hok, hlen, k⟩ := h
    refine ⟨_, pss_cons (ps_if (PW.pt (pw_and (pt_cmpR op_eq (pe_callB call_len_seq (by rfl) TN.len PySem.boot_len (pa_cons (pv 0) pa_nil)) pe_int (nomark _)) (pw_and (pt_cmpR op_eq (pe_ix ix_list (pv 0) pe_int (fun _ _ => rfl)) pe_str (nomark _)) (pw_and1 (pt_cmpR op_in_seq (pe_ix ix_list (pv 0) pe_int (fun _ _ => rfl)) (pe_glob (v := .ref c1) (by rfl) hc1 rfl) (by rfl)))))) (pss_one (ps_ret (pe_tup (pa_cons pe_str (pa_cons (pe_ix ix_list (pv 0) pe_int (fun _ _ => rfl)) pa_nil))))) pss_nil)
      (pss_cons (ps_if (PW.pt (pw_and (pt_cmpR op_eq (pe_callB call_len_seq (by rfl) TN.len PySem.boot_len (pa_cons (pv 0) pa_nil)) pe_int (nomark _)) (pw_and (pt_cmpR (op_eqD hr.units) (pe_slice sl_list (pv 0) po_none (po_some pe_int)) (pe_lst (pa_cons pe_str (pa_cons pe_str pa_nil))) (nomark _)) (pw_and1 (pt_cmpR op_in_seq (pe_ix ix_list (pv 0) pe_int (fun _ _ => rfl)) (pe_glob (v := .ref c1) (by rfl) hc1 rfl) (by rfl)))))) (pss_one (ps_ret (pe_tup (pa_cons pe_str (pa_cons (pe_ix ix_list (pv 0) pe_int (fun _ _ => rfl)) pa_nil))))) pss_nil)
      (pss_cons (ps_if (PW.pt (pw_and (pt_cmpR op_eq (pe_callB call_len_seq (by rfl) TN.len PySem.boot_len (pa_cons (pv 0) pa_nil)) pe_int (nomark _)) (pw_and (pt_cmpR (op_eqD hr.units) (pe_slice sl_list (pv 0) (po_some pe_int) po_none) (pe_lst (pa_cons pe_str (pa_cons pe_str pa_nil))) (nomark _)) (pw_and1 (pt_cmpR op_in_seq (pe_ix ix_list (pv 0) pe_int (fun _ _ => rfl)) (pe_glob (v := .ref c1) (by rfl) hc1 rfl) (by rfl)))))) (pss_one (ps_ret (pe_tup (pa_cons pe_str (pa_cons (pe_ix ix_list (pv 0) pe_int (fun _ _ => rfl)) pa_nil))))) pss_nil)
      (pss_one (ps_ret (pe_call GC hr rfl gC kC bC .nil pass0 (pa_cons (pv 0) (pa_cons (pe_glob (v := .ref c2) (by rfl) hc2 rfl) pa_nil))))))), ?_⟩
    refine Says.ite (Says.and (fun Q h => ⟨_, rfl, a, _, rfl, .inl ha, rfl, _, rfl, by show Q (decide (V.int _ = V.int ((2 : Nat) : Int))) _; rw [dec_len]; exact h _ (Same.refl _)⟩) (fun G1 s1 h1 => (Says.and (fun Q h => ⟨_, rfl, a, _, 0, _, rfl, rfl, (s1.seq ha), wd_at (i := 0) (by omega), rfl, _, rfl, by rw [dec_str]; exact h _ (Same.refl _)⟩) (fun G2 s2 h2 => (fun Q h => ⟨_, rfl, a, _, 1, _, rfl, rfl, (s2.seq (s1.seq ha)), wd_at (i := 1) (by omega), c1, _, rfl, .inr (hC1 _), rfl, flat_str knownL, by rw [if_neg Bool.false_ne_true, inV_str]; exact ⟨_, rfl, h _ (Same.refl _)⟩⟩))))) (fun G1 t1 h1 => ?_) (fun G1 t1 h1 => ?_)
    · obtain ⟨z2, z⟩ := h1
      refine ⟨_, rfl, a, _, 1, _, rfl, rfl, t1.seq ha, wd_at (i := 1) (by omega), (by show 2 ≤ sizeLine; decide), fun p np => ?_⟩
      refine k _ _ (t1.trans (Same.new np)) ?_
      unfold hPartM
      rw [if_pos ⟨z2, z⟩]
      exact ⟨(by intro z; cases z), .tup (SqT.of upd_same) (.cons (.str _) (.cons (.str _) .nil))⟩
    have a1 := t1.seq ha
    refine nxt ?_
    dsimp only
    have wokT : WsOk (ws.take 2) := fun w hw => hok w (List.mem_of_mem_take hw)
    have wokD : WsOk (ws.drop 1) := fun w hw => hok w (List.mem_of_mem_drop hw)
    refine Says.ite (p := ws.length = 3 ∧ ws.take 2 = [("ahead" : Str), "used"] ∧ wd ws 2 ∈ knownL) ?_ (fun G2 t2 h2 => ?_) (fun G2 t2 h2 => ?_)
    · exact Says.and (fun Q h => ⟨_, rfl, a, _, rfl, .inl a1, rfl, _, rfl, by show Q (decide (V.int _ = V.int ((3 : Nat) : Int))) _; rw [dec_len]; exact h _ (Same.refl _)⟩) fun G2 s2 e3 => Says.and (slice_says (xs := [("ahead" : Str), "used"]) (s2.seq a1) wokT (cut_hi ws 2) (by decide) (by decide +kernel) (fun Q h => ⟨_, rfl, _, rfl, a, _, rfl, s2.seq a1, h⟩) (fun G Q h => h)) fun G3 s3 _ => (fun Q h => ⟨_, rfl, a, _, 2, _, rfl, rfl, ((s2.trans s3).seq a1), wd_at (i := 2) (by omega), c1, _, rfl, .inr (hC1 _), rfl, flat_str knownL, by rw [if_neg Bool.false_ne_true, inV_str]; exact ⟨_, rfl, h _ (Same.refl _)⟩⟩)
    · obtain ⟨z3, z, z'⟩ := h2
      refine ⟨_, rfl, a, _, 2, _, rfl, rfl, t2.seq a1, wd_at (i := 2) (by omega), (by show 2 ≤ sizeLine; decide), fun p np => ?_⟩
      refine k _ _ (t1.trans (t2.trans (Same.new np))) ?_
      unfold hPartM
      rw [if_neg h1, if_pos ⟨z3, ((head_two z3).mp z).1, ((head_two z3).mp z).2, z'⟩]
      exact ⟨(by intro z; cases z), .tup (SqT.of upd_same) (.cons (.str _) (.cons (.str _) .nil))⟩
    have h2' : ¬ (ws.length = 3 ∧ wd ws 0 = "ahead" ∧ wd ws 1 = "used" ∧ wd ws 2 ∈ knownL) := fun z => h2 ⟨z.1, (head_two z.1).mpr ⟨z.2.1, z.2.2.1⟩, z.2.2.2⟩
    have a2 := t2.seq a1
    refine nxt ?_
    dsimp only
    refine Says.ite (p := ws.length = 3 ∧ ws.drop 1 = [("is" : Str), "bin"] ∧ wd ws 0 ∈ knownL) ?_ (fun G3 t3 h3 => ?_) (fun G3 t3 h3 => ?_)
    · exact Says.and (fun Q h => ⟨_, rfl, a, _, rfl, .inl a2, rfl, _, rfl, by show Q (decide (V.int _ = V.int ((3 : Nat) : Int))) _; rw [dec_len]; exact h _ (Same.refl _)⟩) fun G2 s2 e3 => Says.and (slice_says (xs := [("is" : Str), "bin"]) (s2.seq a2) wokD (cut_lo ws 1) (by decide) (by decide +kernel) (fun Q h => ⟨_, rfl, _, rfl, a, _, rfl, s2.seq a2, h⟩) (fun G Q h => h)) fun G3 s3 _ => (fun Q h => ⟨_, rfl, a, _, 0, _, rfl, rfl, ((s2.trans s3).seq a2), wd_at (i := 0) (by omega), c1, _, rfl, .inr (hC1 _), rfl, flat_str knownL, by rw [if_neg Bool.false_ne_true, inV_str]; exact ⟨_, rfl, h _ (Same.refl _)⟩⟩)
    · obtain ⟨z3, z, z'⟩ := h3
      refine ⟨_, rfl, a, _, 0, _, rfl, rfl, t3.seq a2, wd_at (i := 0) (by omega), (by show 2 ≤ sizeLine; decide), fun p np => ?_⟩
      refine k _ _ (t1.trans (t2.trans (t3.trans (Same.new np)))) ?_
      unfold hPartM
      rw [if_neg h1, if_neg h2', if_pos ⟨z3, ((tail_two z3).mp z).1, ((tail_two z3).mp z).2, z'⟩]
      exact ⟨(by intro z; cases z), .tup (SqT.of upd_same) (.cons (.str _) (.cons (.str _) .nil))⟩
    have h3' : ¬ (ws.length = 3 ∧ wd ws 1 = "is" ∧ wd ws 2 = "bin" ∧ wd ws 0 ∈ knownL) := fun z => h3 ⟨z.1, (tail_two z.1).mpr ⟨z.2.1, z.2.2.1⟩, z.2.2.2⟩
    refine nxt ?_
    dsimp only
    have tA := t1.trans (t2.trans t3)
    refine ⟨_, rfl, a, c2, ws, namesL, rfl, tA.seq ha, hC2 _, hok.two, fun v G s res => k v G (tA.trans s) ?_⟩
    unfold hPartM
    rw [if_neg h1, if_neg h2', if_neg h3']
    exact res
end
end K14

set_option Elab.async false
set_option linter.all false
set_option maxRecDepth 100000
set_option maxHeartbeats 8000000
/-! Block codes, h: what a line does, its marks; lines; foreign words -/
namespace K14
open PySem L2
/-- what a line does -/
inductive St where
  | fin (s : Str)
  | set (so n : Str) (ds : List PyData) (c : Unit)
  | iff (t : PyData)
  | els
  | nd
def actsL : List Str := ["size", "size ahead", "set", "link", "copy", "go", "head", "resize", "foot", "flag", "tie"]
def St.d : St → PyData
  | .fin s => .tuple [.str s]
  | .set so n ds _ => .tuple (.str so :: .str n :: ds)
  | .iff t => .tuple [.str "if", t]
  | .els => .tuple [.str "else"]
  | .nd => .tuple [.str "end"]
def St.sort : St → Str
  | .fin s => s
  | .set so _ _ _ => so
  | .iff _ => "if"
  | .els => "else"
  | .nd => "end"
/-- the tests of an if as data -/
def testD (ps : List (Bool × Str × List PyData)) : PyData := .tuple (ps.map fun p => .tuple [.bool p.1, .tuple (.str p.2.1 :: p.2.2)])
def St.Ok : St → Prop
  | .fin s => s = "quit" ∨ s = "no"
  | .set so _ _ _ => so ∈ actsL
  | .iff t => ∃ ps, t = testD ps ∧ ps.length ≤ 4
  | _ => True
def partRead : PyData → Bool
  | .tuple [_, .tuple (.str s :: _)] => decide (s ∈ [("used" : Str), "ahead"])
  | _ => false
def iffMarks : PyData → List Str
  | .tuple ds => (ds.filter partRead).map fun _ => "read"
  | _ => []
def St.marks : St → List Str
  | .set so n _ _ => if so ∈ [("size" : Str), "size ahead", "link"] then [n, "read"] else if so ∈ [("set" : Str), "copy", "go"] then [n] else if so ∈ writingL then ["write"] else []
  | .iff t => iffMarks t
  | _ => []
def linesM (x : Str) : List Str := if x = Str.empty then [] else Txt.split x "\n"
def spMarks (K : PySem.W.Frag) : Sp := fun vs H Q _ => ∃ (v : V) (st : St), vs = [v] ∧ TDp K H v st.d ∧ st.Ok ∧ ∀ p H', Same H H' → H' p = some (.lst (st.marks.map V.str)) → Q (.ref p) H'
def spLines : Sp := fun vs H Q _ => ∃ x : Str, vs = [.str x] ∧ x.length + 2 ≤ sizeLine ∧ ∀ p H', Same H H' → H' p = some (.lst ((linesM x).map V.str)) → Q (.ref p) H'
def foreignM (row : Str) (st : St) (kd : Str) : Bool := decide ((kd = "free" ∧ ("want" : Str) ∈ Txt.split row " ") ∨ (st.sort = "no" ∧ (kd = "free" ∨ kd = "cut")))
def spForeign (K : PySem.W.Frag) : Sp := fun vs H Q _ => ∃ (row kd : Str) (v : V) (st : St), vs = [.str row, v, .str kd] ∧ TDp K H v st.d ∧ row.length + 2 ≤ sizeLine ∧ ∀ H', Same H H' → Q (.bl (foreignM row st kd)) H'
theorem St.head {K : PySem.W.Frag} {H : Hp} {v : V} {st : St} (h : TDp K H v st.d) : ∃ a rest, v = .ref a ∧ SqT K H a (.str st.sort :: rest) := by
  cases st <;>
  · cases h with
    | tup hs ha =>
      cases ha with
      | cons h1 hr =>
        cases h1
        exact ⟨_, _, rfl, hs⟩
theorem St.second {K : PySem.W.Frag} {H : Hp} {v : V} {so n : Str} {ds : List PyData} {c : Unit} (h : TDp K H v (St.set so n ds c).d) : ∃ a rest, v = .ref a ∧ SqT K H a (.str so :: .str n :: rest) := by
  cases h with
  | tup hs ha =>
    cases ha with
    | cons h1 hr =>
      cases hr with
      | cons h2 hr =>
        cases h1
        cases h2
        exact ⟨_, _, rfl, hs⟩
theorem tdp_len {K : PySem.W.Frag} {H : Hp} : ∀ {vs : List V} {ds : List PyData}, TDpAll K H vs ds → vs.length = ds.length
  | _, _, .nil => rfl
  | _, _, .cons _ t => by rw [List.length_cons, List.length_cons, tdp_len t]
theorem tdp_get {K : PySem.W.Frag} {H : Hp} {β : Type} {f : β → PyData} : ∀ {vs : List V} {ps : List β} {i : Nat} {x : V}, TDpAll K H vs (ps.map f) → vs[i]? = some x → ∃ p, ps[i]? = some p ∧ TDp K H x (f p)
  | _, [], _, _, .nil, e => by simp at e
  | _, p :: ps, 0, x, .cons h _, e => ⟨p, rfl, by cases (show some _ = some x from e); exact h⟩
  | _, p :: ps, i + 1, x, .cons _ t, e => tdp_get (i := i) t e
theorem part_at {K : PySem.W.Frag} {H : Hp} {x : V} {b : Bool} {s : Str} {r : List PyData} (h : TDp K H x (.tuple [.bool b, .tuple (.str s :: r)])) : ∃ (b3 : Addr) (vb : V) (b4 : Addr) (rest : List V), x = .ref b3 ∧ SqT K H b3 [vb, .ref b4] ∧ SqT K H b4 (.str s :: rest) := by
  cases h with
  | tup hs hd =>
  cases hd with
  | cons h1 hd =>
  cases hd with
  | cons h2 hd =>
  cases hd
  cases h2 with
  | tup hs2 hd2 =>
  cases hd2 with
  | cons h3 hd2 =>
  cases h3
  exact ⟨_, _, _, _, rfl, hs, hs2⟩
theorem marks_eq (ps : List (Bool × Str × List PyData)) : ((ps.map fun p => PyData.tuple [.bool p.1, .tuple (.str p.2.1 :: p.2.2)]).filter partRead).map (fun _ => ("read" : Str)) = (ps.filter fun p => decide (p.2.1 ∈ [("used" : Str), "ahead"])).map fun _ => ("read" : Str) := by
  induction ps with
  | nil => rfl
  | cons p r ih =>
    rw [List.map_cons, List.filter_cons, List.filter_cons]
    show (if decide (p.2.1 ∈ [("used" : Str), "ahead"]) = true then _ else _ : List PyData).map _ = _
    split
    · rw [List.map_cons, ih, List.map_cons]
    · exact ih
theorem Says.retIf {A : TT} {ta tb : TE} {D : Ends} {σ : L2.St} {H : Hp} {p : Prop} [Decidable p] (ha : Says A σ H p) (ht : ∀ G, Same H G → p → ta σ G D.rt) (he : ∀ G, Same H G → ¬ p → tb σ G D.rt) : tRet (tIf A ta tb) D σ H := ha _ fun G s => by
  by_cases c : p
  · rw [if_pos (decide_eq_true c)]
    exact ht G s c
  · rw [if_neg (by rw [decide_eq_false c]; decide)]
    exact he G s c
abbrev nmMarks : List Str := ["step", "_", "part"]
section
variable {P : Program} {w : World} {K : PySem.W.Frag} {mg : Str → Option Value} {base : Heap}
theorem scMarks : FnScope nmMarks ["step"] (defScope sMarks) := ⟨rfl, rfl, rfl, by decide +kernel, rfl, by decide +kernel, by decide +kernel⟩
theorem ok_marks {f : Addr} {fd : FuncData} (F : Fun K "marks_of" "marks_of" sMarks f fd) (T : TxtC K w mg) : FnOk P w K mg base CX0 1 f fd ["step"] (spMarks K) := by
  obtain ⟨c6, hc6, hC6⟩ := T.wr
  refine F.ok scMarks (fun vs H Q E h => ?_) (fun cdv A outer s H vs Q E hr h => ?_)
  · obtain ⟨v, st, rfl, _⟩ := h
    rfl
  · obtain ⟨v, st, rfl, hv, hst, k⟩ := h
    refine ⟨_, pss_cons (ps_if (pt_cmpR op_eq (pe_ix ix_tup (pv 0) pe_int (fun _ _ => rfl)) pe_str (nomark _)) (pss_one (ps_ret (pe_lc (own := [("_", 1), ("part", 2)]) (g := gTup K 2 (gCons (gName 1) (gCons (gName 2) gNil))) (te := tC (.str "read")) rfl scMarks.nd (by exact pi_tup (pe_ix ix_tup (pv 0) pe_int (fun _ _ => rfl))) (blkOk_by (own := [("_", 1), ("part", 2)]) (N := nmMarks) (sc := defScope sMarks) (by decide +kernel)) (fun _ _ _ _ _ => by exact pg_tup rfl (pgs_cons (pg_name (i := 1) scMarks.nd rfl (Or.inl rfl)) (pgs_cons (pg_name (i := 2) scMarks.nd rfl (Or.inl rfl)) pgs_nil))) (fun _ _ _ _ _ => pts_one (pt_cmpR (show OpR _ _ (rIn K false) from op_in_seq) (pe_ix (show IxR _ (rIxT K) from ix_tup) (pv 2) pe_int (fun _ _ => rfl)) (pe_tup (pa_cons pe_str (pa_cons pe_str pa_nil))) (by rfl))) (fun _ _ _ _ _ => pe_str)))) pss_nil)
      (pss_cons (ps_if (pt_cmpR op_in_seq (pe_ix ix_tup (pv 0) pe_int (fun _ _ => rfl)) (pe_tup (pa_cons pe_str (pa_cons pe_str (pa_cons pe_str pa_nil)))) (by rfl)) (pss_one (ps_ret (pe_lst (pa_cons (pe_ix ix_tup (pv 0) pe_int (fun _ _ => rfl)) (pa_cons pe_str pa_nil))))) pss_nil)
      (pss_cons (ps_if (pt_cmpR op_in_seq (pe_ix ix_tup (pv 0) pe_int (fun _ _ => rfl)) (pe_tup (pa_cons pe_str (pa_cons pe_str (pa_cons pe_str pa_nil)))) (by rfl)) (pss_one (ps_ret (pe_lst (pa_cons (pe_ix ix_tup (pv 0) pe_int (fun _ _ => rfl)) pa_nil)))) pss_nil)
      (pss_one (ps_ret (pe_ifExp (pt_cmpR op_in_seq (pe_ix ix_tup (pv 0) pe_int (fun _ _ => rfl)) (pe_glob (v := .ref c6) (by rfl) hc6 rfl) (by rfl)) (pe_lst (pa_cons pe_str pa_nil)) (pe_lst pa_nil)))))), ?_⟩
    obtain ⟨b, rest, rfl, hb⟩ := St.head hv
    refine ⟨_, rfl, b, _, 0, _, rfl, rfl, hb, atI_nat (j := 0) rfl, rfl, _, rfl, ?_⟩
    rw [dec_str]
    by_cases hi : st.sort = "if"
    · rw [decide_eq_true hi]
      refine iteT ?_
      cases st with
      | iff t =>
        obtain ⟨ps, rfl, hps⟩ := hst
        cases hv with
        | tup hs hd =>
        cases hd with
        | cons h1 hd =>
        cases hd with
        | @cons v2 _ _ _ h2 hd =>
        cases hd
        cases h1
        cases h2 with
        | @tup b2 xs ds hs2 hd2 =>
        refine ⟨_, rfl, b, _, 1, _, rfl, rfl, hs, atI_nat (j := 1) rfl, b2, rfl, ⟨_, hs2⟩, fun A0 nA => ?_⟩
        have len : xs.length = ps.length := by rw [tdp_len hd2, List.length_map]
        refine lc_tup (K := K) (a := b2) (xs := xs) (fun i G => Same H G ∧ G A0 = some (.lst ((((ps.take i).filter fun p => decide (p.2.1 ∈ [("used" : Str), "ahead"])).map fun _ => ("read" : Str)).map V.str))) ⟨Same.new nA, upd_same⟩ (fun i G _ hp => Same.tk hp.1 _ _ _ hs2) ?_ ?_
        · rintro i x G hx ⟨sG, gA⟩
          obtain ⟨pp, hpp, hd⟩ := tdp_get hd2 hx
          obtain ⟨b3, vb, b4, rest4, rfl, hb3, hb4⟩ := part_at hd
          refine ⟨b3, _, rfl, Same.tk sG _ _ _ hb3, rfl, _, _, rfl, _, _, rfl, rfl, ?_⟩
          refine ⟨rfl, ?_⟩
          refine ⟨_, rfl, b4, _, 0, _, rfl, rfl, Same.tk sG _ _ _ hb4, atI_nat (j := 0) rfl, (by show 2 ≤ sizeLine; decide), fun qq nqq => ⟨qq, _, rfl, .inr (SqT.of upd_same), rfl, flat_str [("used" : Str), "ahead"], ?_⟩⟩
          rw [if_neg Bool.false_ne_true]
          refine ⟨_, rfl, ?_⟩
          show if inV (V.str pp.2.1) ([("used" : Str), "ahead"].map V.str) = true then _ else _
          rw [inV_str]
          have tk := take_more hpp
          have s2 := sG.trans (Same.new (o := .tup [.str "used", .str "ahead"]) nqq)
          have g2 := (Same.new (o := .tup [.str "used", .str "ahead"]) nqq) _ _ gA
          by_cases c : pp.2.1 ∈ [("used" : Str), "ahead"]
          · rw [decide_eq_true c]
            refine iteT ⟨_, g2, ?_, Same.write s2 nA, ?_⟩
            · rw [List.length_map, List.length_map]
              exact Nat.lt_of_le_of_lt (Nat.le_trans (List.length_filter_le _ _) (Nat.le_trans (List.length_take_le' _ _) hps)) (by decide)
            · have e1 : ([pp].filter fun p => decide (p.2.1 ∈ [("used" : Str), "ahead"])) = [pp] := by
                rw [List.filter_cons, decide_eq_true c]
                rfl
              rw [tk, List.filter_append, List.map_append, List.map_append, upd_same, e1]
              rfl
          · rw [decide_eq_false c]
            refine iteF ⟨s2, ?_⟩
            have e1 : ([pp].filter fun p => decide (p.2.1 ∈ [("used" : Str), "ahead"])) = [] := by
              rw [List.filter_cons, decide_eq_false c]
              rfl
            rw [tk, List.filter_append, g2, e1, List.append_nil]
        rintro G ⟨sG, gA⟩
        refine k A0 G sG ?_
        rw [gA, len, List.take_length]
        show _ = some (HO.lst ((((ps.map fun p => PyData.tuple [.bool p.1, .tuple (.str p.2.1 :: p.2.2)]).filter partRead).map fun _ => ("read" : Str)).map V.str))
        rw [marks_eq]
      | set so n ds c =>
        have z : so = "if" := hi
        have y : so ∈ actsL := hst
        rw [z] at y
        exact absurd y (by decide +kernel)
      | fin x =>
        have z : x = "if" := hi
        rcases hst with e | e
        · rw [z] at e; exact absurd e (by decide +kernel)
        · rw [z] at e; exact absurd e (by decide +kernel)
      | els => exact absurd hi (by decide +kernel)
      | nd => exact absurd hi (by decide +kernel)
    rw [decide_eq_false hi]
    refine iteF ?_
    refine nxt ?_
    dsimp only
    have tup : ∀ {G : Hp}, Same H G → SqT K G b (.str st.sort :: rest) := fun s => Same.tk s _ _ _ hb
    refine Says.ite (p := st.sort ∈ [("size" : Str), "size ahead", "link"]) (fun Q h => ⟨_, rfl, b, _, 0, _, rfl, rfl, hb, atI_nat (j := 0) rfl, (by show 3 ≤ sizeLine; decide), fun qq nqq => ⟨qq, _, rfl, .inr (SqT.of upd_same), rfl, flat_str [("size" : Str), ("size ahead" : Str), ("link" : Str)], by rw [if_neg Bool.false_ne_true]; exact ⟨_, rfl, by show Q (inV (V.str _) ([("size" : Str), ("size ahead" : Str), ("link" : Str)].map V.str)) _; rw [inV_str]; exact h _ (Same.new nqq)⟩⟩⟩) (fun G1 t1 h1 => ?_) (fun G1 t1 h1 => ?_)
    · cases st with
      | set so n ds c =>
        obtain ⟨b', rest', e, hb'⟩ := St.second hv
        cases e
        refine ⟨_, rfl, b, _, 1, _, rfl, rfl, Same.tk t1 _ _ _ hb', atI_nat (j := 1) rfl, (by show 2 ≤ sizeLine; decide), fun p np => ?_⟩
        refine k p _ (t1.trans (Same.new np)) ?_
        rw [upd_same]
        show _ = some (HO.lst ((if so ∈ [("size" : Str), "size ahead", "link"] then [n, "read"] else if so ∈ [("set" : Str), "copy", "go"] then [n] else if so ∈ writingL then ["write"] else []).map V.str))
        rw [if_pos (show so ∈ [("size" : Str), "size ahead", "link"] from h1)]
        rfl
      | fin x =>
        rcases hst with e | e
        · subst e; exact absurd h1 (by decide +kernel)
        · subst e; exact absurd h1 (by decide +kernel)
      | iff t => exact absurd rfl hi
      | els => exact absurd h1 (by decide +kernel)
      | nd => exact absurd h1 (by decide +kernel)
    refine nxt ?_
    dsimp only
    refine Says.ite (p := st.sort ∈ [("set" : Str), "copy", "go"]) (fun Q h => ⟨_, rfl, b, _, 0, _, rfl, rfl, (tup t1), atI_nat (j := 0) rfl, (by show 3 ≤ sizeLine; decide), fun qq nqq => ⟨qq, _, rfl, .inr (SqT.of upd_same), rfl, flat_str [("set" : Str), ("copy" : Str), ("go" : Str)], by rw [if_neg Bool.false_ne_true]; exact ⟨_, rfl, by show Q (inV (V.str _) ([("set" : Str), ("copy" : Str), ("go" : Str)].map V.str)) _; rw [inV_str]; exact h _ (Same.new nqq)⟩⟩⟩) (fun G2 t2 h2 => ?_) (fun G2 t2 h2 => ?_)
    · cases st with
      | set so n ds c =>
        obtain ⟨b', rest', e, hb'⟩ := St.second hv
        cases e
        refine ⟨_, rfl, b, _, 1, _, rfl, rfl, Same.tk (t1.trans t2) _ _ _ hb', atI_nat (j := 1) rfl, (by show 1 ≤ sizeLine; decide), fun p np => ?_⟩
        refine k p _ ((t1.trans t2).trans (Same.new np)) ?_
        rw [upd_same]
        show _ = some (HO.lst ((if so ∈ [("size" : Str), "size ahead", "link"] then [n, "read"] else if so ∈ [("set" : Str), "copy", "go"] then [n] else if so ∈ writingL then ["write"] else []).map V.str))
        rw [if_neg (show ¬ so ∈ [("size" : Str), "size ahead", "link"] from h1), if_pos (show so ∈ [("set" : Str), "copy", "go"] from h2)]
        rfl
      | fin x =>
        rcases hst with e | e
        · subst e; exact absurd h2 (by decide +kernel)
        · subst e; exact absurd h2 (by decide +kernel)
      | iff t => exact absurd rfl hi
      | els => exact absurd h2 (by decide +kernel)
      | nd => exact absurd h2 (by decide +kernel)
    refine nxt ?_
    dsimp only
    have t12 := t1.trans t2
    refine Says.retIf (p := st.sort ∈ writingL) (fun Q h => ⟨_, rfl, b, _, 0, _, rfl, rfl, tup t12, atI_nat (j := 0) rfl, c6, _, rfl, .inr (hC6 _), rfl, flat_str writingL, by rw [if_neg Bool.false_ne_true, inV_str]; exact ⟨_, rfl, h _ (Same.refl _)⟩⟩) (fun G3 t3 h3 => ?_) (fun G3 t3 h3 => ?_)
    · refine ⟨(by show 1 ≤ sizeLine; decide), fun p np => ?_⟩
      refine k p _ ((t12.trans t3).trans (Same.new np)) ?_
      rw [upd_same]
      cases st with
      | set so n ds c =>
        show _ = some (HO.lst ((if so ∈ [("size" : Str), "size ahead", "link"] then [n, "read"] else if so ∈ [("set" : Str), "copy", "go"] then [n] else if so ∈ writingL then ["write"] else []).map V.str))
        rw [if_neg (show ¬ so ∈ [("size" : Str), "size ahead", "link"] from h1), if_neg (show ¬ so ∈ [("set" : Str), "copy", "go"] from h2), if_pos (show so ∈ writingL from h3)]
        rfl
      | fin x =>
        rcases hst with e | e
        · subst e; exact absurd h3 (by decide +kernel)
        · subst e; exact absurd h3 (by decide +kernel)
      | iff t => exact absurd rfl hi
      | els => exact absurd h3 (by decide +kernel)
      | nd => exact absurd h3 (by decide +kernel)
    · have no : st.marks = [] := by
        cases st with
        | set so n ds c =>
          show (if so ∈ [("size" : Str), "size ahead", "link"] then [n, "read"] else if so ∈ [("set" : Str), "copy", "go"] then [n] else if so ∈ writingL then ["write"] else []) = _
          rw [if_neg (show ¬ so ∈ [("size" : Str), "size ahead", "link"] from h1), if_neg (show ¬ so ∈ [("set" : Str), "copy", "go"] from h2), if_neg (show ¬ so ∈ writingL from h3)]
        | fin x => rfl
        | iff t => exact absurd rfl hi
        | els => rfl
        | nd => rfl
      exact ⟨(by show 0 ≤ sizeLine; decide), fun p np => k p _ ((t12.trans t3).trans (Same.new np)) (by rw [no, upd_same]; rfl)⟩
theorem scLines : FnScope ["text"] ["text"] (defScope sLines) := ⟨rfl, rfl, rfl, by decide +kernel, rfl, by decide +kernel, by decide +kernel⟩
theorem ok_lines {f : Addr} {fd : FuncData} (F : Fun K "lines_of" "lines_of" sLines f fd) : FnOk P w K mg base CX0 1 f fd ["text"] spLines := by
  refine F.ok scLines (fun vs H Q E h => ?_) (fun cdv A outer s H vs Q E hr h => ?_)
  · obtain ⟨x, rfl, _⟩ := h
    rfl
  · obtain ⟨x, rfl, hx, k⟩ := h
    refine ⟨_, pss_cons (ps_if (pt_cmpR op_eq (pv 0) pe_str (nomark _)) (pss_one (ps_ret (pe_lst pa_nil))) pss_nil)
      (pss_one (ps_ret (pe_split (pv 0) pe_str))), ?_⟩
    refine ⟨_, rfl, rfl, _, rfl, ?_⟩
    unfold linesM at k
    refine ite2 (fun h1 => ?_) (fun h1 => ?_)
    · have e : x = Str.empty := V.str.inj (of_decide_eq_true h1)
      rw [if_pos e] at k
      exact ⟨by decide, fun p np => k p _ (Same.new np) upd_same⟩
    · have e : ¬ x = Str.empty := fun z => h1 (decide_eq_true (congrArg V.str z))
      rw [if_neg e] at k
      refine ⟨_, rfl, ⟨_, rfl⟩, x, _, rfl, rfl, rfl, hx, fun p np => ?_⟩
      exact k p _ (Same.new np) upd_same
end
end K14

set_option Elab.async false
set_option linter.all false
set_option maxRecDepth 100000
set_option maxHeartbeats 8000000
/-! Block codes, i: foreign words; rules made -/
namespace K14
open PySem L2
abbrev sWh : Stmt := top 13
abbrev sFrom : Stmt := top 14
abbrev sBR : Stmt := inClass (top 59) 0
structure TxtWh (mg : Str → Option Value) : Prop where
  isi : mg "isinstance" = none
  int : mg "int" = none
  bool : mg "bool" = none
def spWh : Sp := fun vs H Q _ => ∃ i : Int, vs = [.int i] ∧ Q (.bl true) H
def spFrom : Sp := fun vs H Q _ => ∃ i l : Int, vs = [.int i, .int l] ∧ Q (.bl (decide (l ≤ i))) H
section
variable {P : Program} {w : World} {K : PySem.W.Frag} {mg : Str → Option Value} {base : Heap}
theorem scForeign : FnScope ["row", "step", "kind"] ["row", "step", "kind"] (defScope sForeign) := ⟨rfl, rfl, rfl, by decide +kernel, rfl, by decide +kernel, by decide +kernel⟩
theorem ok_foreign {f : Addr} {fd : FuncData} (F : Fun K "is_foreign" "is_foreign" sForeign f fd) : FnOk P w K mg base CX0 1 f fd ["row", "step", "kind"] (spForeign K) := by
  refine F.ok scForeign (fun vs H Q E h => ?_) (fun cdv A outer s H vs Q E hr h => ?_)
  · obtain ⟨row, kd, v, st, rfl, _⟩ := h
    rfl
  · obtain ⟨row, kd, v, st, rfl, hv, hrow, k⟩ := h
    refine ⟨_, pss_cons (ps_if (PW.pt (pw_and (pt_cmpR op_eq (pv 2) pe_str (nomark _)) (pw_and1 (pt_cmpR op_in_seq pe_str (pe_split (pv 0) pe_str) (by rfl))))) (pss_one (ps_ret pe_bl)) pss_nil)
      (pss_one (ps_ret (pe_and (pe_cmpR op_eq (pe_ix ix_tup (pv 1) pe_int (fun _ _ => rfl)) pe_str (nomark _)) (pe_one (pe_cmpR op_in_seq (pv 2) (pe_tup (pa_cons pe_str (pa_cons pe_str pa_nil))) (by rfl)))))), ?_⟩
    obtain ⟨b, rest, rfl, hb⟩ := St.head hv
    refine Says.ite (p := kd = "free" ∧ ("want" : Str) ∈ Txt.split row " ") (Says.and (fun Q h => ⟨_, rfl, rfl, _, rfl, by rw [dec_str]; exact h _ (Same.refl _)⟩) (fun G1 s1 h1 => (fun Q h => ⟨_, rfl, ⟨_, rfl⟩, row, _, rfl, rfl, rfl, hrow, fun q nq => ⟨q, _, rfl, .inl (SqL.of upd_same), rfl, flat_str _, by rw [if_neg Bool.false_ne_true, inV_str]; exact ⟨_, rfl, h _ (Same.new nq)⟩⟩⟩))) (fun G1 t1 h1 => ?_) (fun G1 t1 h1 => ?_)
    · refine (show Q (.bl true) G1 from ?_)
      have z := k G1 t1
      rw [show foreignM row st kd = true from decide_eq_true (.inl h1)] at z
      exact z
    refine nxt ?_
    dsimp only
    refine ⟨_, rfl, b, _, 0, _, rfl, rfl, Same.tk t1 _ _ _ hb, atI_nat (j := 0) rfl, rfl, _, rfl, ?_⟩
    rw [dec_str]
    unfold foreignM at k
    by_cases hn : st.sort = "no"
    · rw [decide_eq_true hn]
      refine iteT ?_
      refine ⟨_, rfl, (by show 2 ≤ sizeLine; decide), fun q nq => ⟨q, _, rfl, .inr (SqT.of upd_same), rfl, flat_str [("free" : Str), ("cut" : Str)], ?_⟩⟩
      rw [if_neg Bool.false_ne_true]
      show Q (.bl (inV (V.str kd) ([("free" : Str), ("cut" : Str)].map V.str))) _
      rw [inV_str]
      have z := k _ (t1.trans (Same.new (o := .tup [.str "free", .str "cut"]) nq))
      rw [show decide ((kd = "free" ∧ ("want" : Str) ∈ Txt.split row " ") ∨ (st.sort = "no" ∧ (kd = "free" ∨ kd = "cut"))) = decide (kd ∈ [("free" : Str), "cut"]) from decide_eq_decide.mpr ⟨fun h => by
        rcases h with h | ⟨_, h | h⟩
        · exact absurd h h1
        · rw [h]; exact .head _
        · rw [h]; exact .tail _ (.head _), fun h => .inr ⟨hn, by
        rcases List.mem_cons.mp h with h | h
        · exact .inl h
        · exact .inr (List.mem_singleton.mp h)⟩⟩] at z
      exact z
    · rw [decide_eq_false hn]
      refine iteF ?_
      have z := k _ t1
      rw [decide_eq_false (fun h => by
        rcases h with h | ⟨h, _⟩
        · exact h1 h
        · exact hn h)] at z
      exact z
theorem scWhl : FnScope ["value"] ["value"] (defScope sWh) := ⟨rfl, rfl, rfl, by decide +kernel, rfl, by decide +kernel, by decide +kernel⟩
theorem ok_wh {f : Addr} {fd : FuncData} (F : Fun K "is_whole" "is_whole" sWh f fd) (T : TxtWh mg) : FnOk P w K mg base CX0 1 f fd ["value"] spWh := by
  refine F.ok scWhl (fun vs H Q E h => ?_) (fun cdv A outer s H vs Q E hr h => ?_)
  · obtain ⟨i, rfl, _⟩ := h
    rfl
  · obtain ⟨i, rfl, k⟩ := h
    refine ⟨_, pss_one (ps_ret (pe_and (pe_callB (id := "isinstance") call_isi (by rfl) T.isi (by decide +kernel) (pa_cons (pv 0) (pa_cons (pe_bltn (v := .ty "int") (by rfl) T.int (by decide +kernel) rfl) pa_nil)))
      (pe_one (pe_not (pe_callB (id := "isinstance") call_isi (by rfl) T.isi (by decide +kernel) (pa_cons (pv 0) (pa_cons (pe_bltn (v := .ty "bool") (by rfl) T.bool (by decide +kernel) rfl) pa_nil))))))), ?_⟩
    refine ⟨_, rfl, .int i, .ty "int", .type "int", .type "int", true, rfl, .ty _, .base (.int _), rfl, _, rfl, ?_⟩
    refine iteT ?_
    refine ⟨_, rfl, .int i, .ty "bool", .type "int", .type "bool", false, rfl, .ty _, .base (.int _), rfl, _, rfl, ?_⟩
    exact k
theorem scFrom : FnScope ["value", "least"] ["value", "least"] (defScope sFrom) := ⟨rfl, rfl, rfl, by decide +kernel, rfl, by decide +kernel, by decide +kernel⟩
theorem ok_from {f fW : Addr} {fd fdW : FuncData} (F : Fun K "is_from" "is_from" sFrom f fd)
    (GW : FnOk P w K mg base CX0 1 fW fdW ["value"] spWh) (kW : PySem.W.keepIn K (.ref fW) = true) (bW : Binds K fdW ["value"] []) (gW : mg "is_whole" = some (.ref fW)) : FnOk P w K mg base CX0 2 f fd ["value", "least"] spFrom := by
  refine F.ok scFrom (fun vs H Q E h => ?_) (fun cdv A outer s H vs Q E hr h => ?_)
  · obtain ⟨i, l, rfl, _⟩ := h
    rfl
  · obtain ⟨i, l, rfl, k⟩ := h
    refine ⟨_, pss_one (ps_ret (pe_and (pe_call GW hr rfl gW kW bW .nil pass0 (pa_cons (pv 0) pa_nil)) (pe_one (pe_cmpR op_ge (pv 0) (pv 1) (nomark _))))), ?_⟩
    refine ⟨_, rfl, i, rfl, _, rfl, ?_⟩
    refine iteT ?_
    exact ⟨_, rfl, _, rfl, i, l, rfl, rfl, k⟩
end
end K14

set_option Elab.async false
set_option linter.all false
set_option maxRecDepth 100000
set_option maxHeartbeats 8000000
/-! Outlines, a: where ifs and elses lead -/
namespace K14
open PySem L2
abbrev sTargets : Stmt := top 26
abbrev sRead : Stmt := top 28
abbrev sOutl : Stmt := top 29
abbrev sWays : Stmt := top 30
abbrev sAbove : Stmt := top 31
abbrev sRefuse : Stmt := top 32
/-- the targets told so far, the places that wait -/
theorem acts_ne {so x : Str} (h : so ∈ actsL) (hx : ¬ x ∈ actsL) : ¬ so = x := fun z => hx (z ▸ h)
def tgGo : List St → Nat → List V → List Nat → Option (List V)
  | [], _, tg, _ => some tg
  | .iff _ :: r, i, tg, wt => tgGo r (i + 1) tg (wt ++ [i])
  | .els :: r, i, tg, wt => match wt.getLast? with
    | none => none
    | some j => tgGo r (i + 1) (tg.set j (.int ((i + 2 : Nat) : Int))) (wt.dropLast ++ [i])
  | .nd :: r, i, tg, wt => match wt.getLast? with
    | none => none
    | some j => tgGo r (i + 1) (tg.set j (.int ((i + 2 : Nat) : Int))) wt.dropLast
  | _ :: r, i, tg, wt => tgGo r (i + 1) tg wt
def tgM (sts : List St) : Option (List V) := tgGo sts 0 (List.replicate sts.length .non) []
def StsAt (K : PySem.W.Frag) (H : Hp) : List V → List St → Prop := Paired fun v st => TDp K H v st.d ∧ st.Ok
theorem Paired.get {α β : Type} {F : α → β → Prop} : ∀ {l : List α} {m : List β} {i : Nat} {x : α}, Paired F l m → l[i]? = some x → ∃ y, m[i]? = some y ∧ F x y
  | _, _, i, _, .nil, e => by simp at e
  | _, _, 0, x, .cons h t, e => by
    simp at e
    subst e
    exact ⟨_, by simp, h⟩
  | _, _, i + 1, x, .cons h t, e => by
    simp only [List.getElem?_cons_succ] at e ⊢
    exact Paired.get t e
def spTargets (K : PySem.W.Frag) : Sp := fun vs H Q _ => ∃ (a : Addr) (xs : List V) (sts : List St) (tg : List V), vs = [.ref a] ∧ SqL K H a xs ∧ StsAt K H xs sts ∧ sts.length ≤ 1000 ∧ tgM sts = some tg ∧ ∀ t H', Same H H' → SqT K H' t tg → Q (.ref t) H'
theorem last_at {wt : List Nat} {j : Nat} (h : wt.getLast? = some j) : (wt.map fun n => V.int (n : Nat))[(wt.map fun n => V.int (n : Nat)).length - 1]? = some (.int j) := by
  rw [List.length_map, List.getElem?_map, ← List.getLast?_eq_getElem?, h]
  rfl
theorem ixN_nat {n j : Nat} (h : j < n) : ixN n (j : Int) = some j := by
  unfold ixN
  rw [if_pos (by omega), if_pos (by omega), Int.toNat_natCast]
theorem rep_flat : ∀ n : Nat, (List.replicate n [V.non]).flatten = List.replicate n V.non
  | 0 => rfl
  | n + 1 => by rw [List.replicate_succ, List.flatten_cons, rep_flat n]; rfl
section
variable {P : Program} {w : World} {K : PySem.W.Frag} {mg : Str → Option Value} {base : Heap}
theorem scTargets : FnScope ["steps", "targets", "waiting", "at", "step"] ["steps"] (defScope sTargets) := ⟨rfl, rfl, rfl, by decide +kernel, rfl, by decide +kernel, by decide +kernel⟩
theorem ok_targets {f : Addr} {fd : FuncData} (F : Fun K "targets_of" "targets_of" sTargets f fd) (T : TxtN mg) : FnOk P w K mg base CX0 1 f fd ["steps"] (spTargets K) := by
  refine F.ok scTargets (fun vs H Q E h => ?_) (fun cdv A outer s H vs Q E hr h => ?_)
  · obtain ⟨a, xs, sts, tg, rfl, _⟩ := h
    rfl
  · obtain ⟨a, xs, sts, tgF, rfl, ha, hst, hlen, htg, k⟩ := h
    have hn : xs.length = sts.length := Paired.length hst
    refine ⟨_, pss_cons (ps_set (i := 1) scTargets.nd rfl (.inl rfl) (pe_op op_rep (pe_lst (pa_cons pe_non pa_nil)) (pe_callB call_len_seq (by rfl) T.len PySem.boot_len (pa_cons (pv 0) pa_nil))))
      (pss_cons (ps_set (i := 2) scTargets.nd rfl (.inl rfl) (pe_lst pa_nil))
      (pss_cons (ps_for PassesOwn.never rfl (pi_enum (by rfl) T.enumerate (pa_cons (pv 0) pa_nil)) (pg_tup rfl (pgs_cons (pg_name (i := 3) scTargets.nd rfl (.inl rfl)) (pgs_cons (pg_name (i := 4) scTargets.nd rfl (.inl rfl)) pgs_nil)))
        (pss_one (ps_if (pt_cmpR op_in_seq (pe_ix ix_tup (pv 4) pe_int (fun _ _ => rfl)) (pe_tup (pa_cons pe_str (pa_cons pe_str pa_nil))) (by rfl))
          (pss_one (ps_expr (pe_bm PySem.F.plainAttrs_list PySem.F.slot_list_append PySem.F.type_list_append mt_append (pv 2) (pa_cons (pv 3) pa_nil))))
          (pss_one (ps_if (pt_cmpR op_eq (pe_ix ix_tup (pv 4) pe_int (fun _ _ => rfl)) pe_str (nomark _))
            (pss_cons (ps_asg (pe_op op_add (pv 3) pe_int) (pg_sub (pv 1) (pe_bm0 PySem.F.plainAttrs_list PySem.F.slot_list_pop PySem.F.type_list_pop mt_pop (pv 2)) set_list))
            (pss_one (ps_expr (pe_bm PySem.F.plainAttrs_list PySem.F.slot_list_append PySem.F.type_list_append mt_append (pv 2) (pa_cons (pv 3) pa_nil)))))
            (pss_one (ps_if (pt_cmpR op_eq (pe_ix ix_tup (pv 4) pe_int (fun _ _ => rfl)) pe_str (nomark _))
              (pss_one (ps_asg (pe_op op_add (pv 3) pe_int) (pg_sub (pv 1) (pe_bm0 PySem.F.plainAttrs_list PySem.F.slot_list_pop PySem.F.type_list_pop mt_pop (pv 2)) set_list)))
              pss_nil)))))))
      (pss_one (ps_ret (pe_callTy call_tuple_of (by rfl) T.tuple (by decide +kernel) (pa_cons (pv 1) pa_nil)))))), ?_⟩
    refine ⟨(by show 1 ≤ sizeLine; decide), fun l nl => ⟨_, rfl, a, _, rfl, .inl ((Same.new nl).seq ha), l, _, _, rfl, rfl, upd_same, by omega, by omega, ?_, fun T0 nT => ?_⟩⟩
    · rw [Int.toNat_natCast]
      show 1 * xs.length ≤ sizeLine
      rw [Nat.one_mul]
      exact Nat.le_of_lt (small1000 (by omega))
    rw [Int.toNat_natCast, rep_flat, hn]
    have s1 := (Same.new (o := .lst [V.non]) nl).trans (Same.new (o := .lst (List.replicate sts.length V.non)) nT)
    have HT : H T0 = none := by
      cases e : H T0 with
      | none => rfl
      | some o => exact absurd ((Same.new nl) _ _ e) (by rw [nT]; intro z; cases z)
    refine ⟨(by show 0 ≤ sizeLine; decide), fun W0 nW => ?_⟩
    have s2 := s1.trans (Same.new (o := .lst []) nW)
    have HW : H W0 = none := by
      cases e : H W0 with
      | none => rfl
      | some o => exact absurd (s1 _ _ e) (by rw [nW]; intro z; cases z)
    have TW : T0 ≠ W0 := ne_of_none upd_same nW
    refine ⟨_, rfl, a, xs, rfl, s2.seq ha, for_it walk_enum (fun i σ G => ∃ tg wt v3 v4, σ = [some (.ref a), some (.ref T0), some (.ref W0), v3, v4] ∧ Same H G ∧ G T0 = some (.lst tg) ∧ G W0 = some (.lst (wt.map fun n => V.int (n : Nat))) ∧
      tg.length = sts.length ∧ wt.length ≤ i ∧ (∀ j ∈ wt, j < i) ∧ tgGo (sts.drop i) i tg wt = some tgF)
      ⟨_, [], none, none, rfl, s2, by rw [upd_ne TW]; exact upd_same, upd_same, List.length_replicate, Nat.le_refl _, (fun j z => nomatch z), htg⟩ (fun i σ G _ ⟨_, _, _, _, _, e, _⟩ => e.seq ha) ?_ ?_⟩
    · rintro i y σ G G' hi ⟨tg, wt, v3, v4, rfl, hG, hT, hW, htl, hwl, hwj, hgo⟩ ⟨p, x, v, rfl, np, rfl, ex, ev⟩
      have ex' : x = .int (i : Nat) := (Option.some.inj ex).symm
      subst ex'
      obtain ⟨st, est, hv, hok⟩ := Paired.get hst ev
      have sp1 := Same.new (o := .tup [.int (i : Nat), v]) np
      obtain ⟨b, rest, rfl, hb1⟩ := St.head (hv.keep (Same.tk (hG.trans sp1)))
      rw [drop_cons est] at hgo
      refine ⟨p, _, rfl, SqT.of upd_same, rfl, _, _, rfl, _, _, rfl, rfl, ?_⟩
      refine ⟨_, rfl, b, _, 0, _, rfl, rfl, hb1, atI_nat (j := 0) rfl, (by show 2 ≤ sizeLine; decide), fun q nq => ?_⟩
      have sp := sp1.trans (Same.new (o := .tup [.str "if", .str "while"]) nq)
      have hG2 := hG.trans sp
      have hT2 := sp _ _ hT
      have hW2 := sp _ _ hW
      have hb := Same.tk (Same.new (o := .tup [.str "if", .str "while"]) nq) _ _ _ hb1
      refine ⟨q, _, rfl, .inr (SqT.of upd_same), rfl, rfl, ?_⟩
      rw [if_neg Bool.false_ne_true]
      refine ⟨_, rfl, ?_⟩
      have hi' : i < 1000 := by omega
      have hin : ∀ {x : Str}, ¬ x = "if" → ¬ x = "while" → inV (V.str x) [V.str "if", V.str "while"] = false := fun {x} h1 h2 => (inV_str x [("if" : Str), "while"]).trans (decide_eq_false fun z => by
        rcases List.mem_cons.mp z with e | e
        · exact h1 e
        · exact h2 (List.mem_singleton.mp e))
      have hnw : ¬ st.sort = "while" := by
        cases st with
        | fin x =>
          intro z
          have z' : x = _ := z
          rcases hok with e | e
          · rw [e] at z'
            exact absurd z' (by decide +kernel)
          · rw [e] at z'
            exact absurd z' (by decide +kernel)
        | set n sm sg c =>
          exact acts_ne hok (by decide +kernel)
        | iff t =>
          show ¬ ("if" : Str) = "while"
          decide +kernel
        | els =>
          show ¬ ("else" : Str) = "while"
          decide +kernel
        | nd =>
          show ¬ ("end" : Str) = "while"
          decide +kernel
      have e2 : ∀ x y : Str, x ≠ y → (decide (V.str x = V.str y)) = false := fun x y h => decide_eq_false fun z => h (V.str.inj z)
      by_cases hs3 : ¬ st.sort = "if" ∧ ¬ st.sort = "else" ∧ ¬ st.sort = "end"
      · have g : tgGo (sts.drop (i + 1)) (i + 1) tg wt = some tgF := by
          cases st with
          | fin x => exact hgo
          | set n sm sg c => exact hgo
          | iff t => exact absurd rfl hs3.1
          | els => exact absurd rfl hs3.2.1
          | nd => exact absurd rfl hs3.2.2
        refine ifF3 (hin hs3.1 hnw) ?_
        refine ⟨_, rfl, b, _, 0, _, rfl, rfl, hb, atI_nat (j := 0) rfl, rfl, _, rfl, ?_⟩
        refine ifF3 (e2 _ _ hs3.2.1) ?_
        refine ⟨_, rfl, b, _, 0, _, rfl, rfl, hb, atI_nat (j := 0) rfl, rfl, _, rfl, ?_⟩
        refine ifF3 (e2 _ _ hs3.2.2) ?_
        exact ⟨tg, wt, _, _, rfl, hG2, hT2, hW2, htl, by omega, (fun j hj => Nat.lt_succ_of_lt (hwj j hj)), g⟩
      have popped : ∀ j, wt.getLast? = some j → j < i ∧ wt ≠ [] := fun j hj => ⟨hwj j (List.mem_of_getLast? hj), fun z => by rw [z] at hj; cases hj⟩
      cases st with
      | fin x =>
        refine absurd ⟨fun z => ?_, fun z => ?_, fun z => ?_⟩ hs3
        all_goals
        · have z' : x = _ := z
          rcases hok with e | e
          · rw [e] at z'
            exact absurd z' (by decide +kernel)
          · rw [e] at z'
            exact absurd z' (by decide +kernel)
      | set n sm sg c =>
        have z1 : ¬ n = "if" := acts_ne hok (by decide +kernel)
        have z2 : ¬ n = "else" := acts_ne hok (by decide +kernel)
        have z3 : ¬ n = "end" := acts_ne hok (by decide +kernel)
        exact absurd ⟨z1, z2, z3⟩ hs3
      | iff t =>
        refine ifT3 ((inV_str "if" [("if" : Str), "while"]).trans (decide_eq_true (List.mem_cons_self ..))) ?_
        refine ⟨_, rfl, .inl ⟨rfl, _, SqL.of hW2⟩, _, rfl, W0, _, _, rfl, rfl, hW2, small1000 (by rw [List.length_map]; omega), ?_⟩
        exact ⟨tg, wt ++ [i], _, _, rfl, Same.write hG2 HW, by rw [upd_ne TW]; exact hT2, by rw [List.map_append]; exact upd_same, htl, by rw [List.length_append]; exact Nat.succ_le_succ hwl, (fun j hj => by
          rcases List.mem_append.mp hj with e | e
          · exact Nat.lt_succ_of_lt (hwj j e)
          · rw [List.mem_singleton.mp e]; exact Nat.lt_succ_self _), hgo⟩
      | els =>
        have z1 : ¬ ("else" : Str) = "if" := by decide +kernel
        refine ifF3 (hin z1 hnw) ?_
        refine ⟨_, rfl, b, _, 0, _, rfl, rfl, hb, atI_nat (j := 0) rfl, rfl, _, rfl, ?_⟩
        refine ifT3 (decide_eq_true rfl) ?_
        have hgo' : (match wt.getLast? with
          | none => none
          | some j => tgGo (sts.drop (i + 1)) (i + 1) (tg.set j (.int ((i + 2 : Nat) : Int))) (wt.dropLast ++ [i])) = some tgF := hgo
        cases ej : wt.getLast? with
        | none => rw [ej] at hgo'; cases hgo'
        | some j =>
        rw [ej] at hgo'
        obtain ⟨hji, hne⟩ := popped j ej
        refine ⟨_, rfl, _, _, rfl, rfl, _, rfl, _, rfl, .inl ⟨rfl, _, SqL.of hW2⟩, W0, _, _, rfl, rfl, hW2, last_at ej, ?_⟩
        refine ⟨T0, _, _, j, rfl, rfl, (by rw [upd_ne TW]; exact hT2), ixN_nat (by omega), ?_⟩
        have hW3 : (upd (upd (upd (upd G p (.tup [.int (i : Nat), .ref b])) q (.tup [.str "if", .str "while"])) W0 (.lst (wt.map fun n => V.int (n : Nat)).dropLast)) T0 (.lst (tg.set j (.int ((i : Int) + 2))))) W0 = some (.lst (wt.dropLast.map fun n => V.int (n : Nat))) := by
          rw [upd_ne TW.symm, upd_same, List.map_dropLast]
        refine ⟨_, rfl, .inl ⟨rfl, _, SqL.of hW3⟩, _, rfl, W0, _, _, rfl, rfl, hW3, small1000 (by rw [List.length_map, List.length_dropLast]; omega), ?_⟩
        exact ⟨_, wt.dropLast ++ [i], _, _, rfl, Same.write (Same.write (Same.write hG2 HW) HT) HW, by rw [upd_ne TW]; exact upd_same, by rw [List.map_append]; exact upd_same, by rw [List.length_set]; exact htl, by rw [List.length_append, List.length_dropLast]; show wt.length - 1 + 1 ≤ i + 1; omega, (fun j hj => by
          rcases List.mem_append.mp hj with e | e
          · exact Nat.lt_succ_of_lt (hwj j (List.dropLast_subset _ e))
          · rw [List.mem_singleton.mp e]; exact Nat.lt_succ_self _), hgo'⟩
      | nd =>
        have z1 : ¬ ("end" : Str) = "if" := by decide +kernel
        have z2 : ¬ ("end" : Str) = "else" := by decide +kernel
        refine ifF3 (hin z1 hnw) ?_
        refine ⟨_, rfl, b, _, 0, _, rfl, rfl, hb, atI_nat (j := 0) rfl, rfl, _, rfl, ?_⟩
        refine ifF3 (e2 _ _ z2) ?_
        refine ⟨_, rfl, b, _, 0, _, rfl, rfl, hb, atI_nat (j := 0) rfl, rfl, _, rfl, ?_⟩
        refine ifT3 (decide_eq_true rfl) ?_
        have hgo' : (match wt.getLast? with
          | none => none
          | some j => tgGo (sts.drop (i + 1)) (i + 1) (tg.set j (.int ((i + 2 : Nat) : Int))) wt.dropLast) = some tgF := hgo
        cases ej : wt.getLast? with
        | none => rw [ej] at hgo'; cases hgo'
        | some j =>
        rw [ej] at hgo'
        obtain ⟨hji, hne⟩ := popped j ej
        refine ⟨_, rfl, _, _, rfl, rfl, _, rfl, _, rfl, .inl ⟨rfl, _, SqL.of hW2⟩, W0, _, _, rfl, rfl, hW2, last_at ej, ?_⟩
        refine ⟨T0, _, _, j, rfl, rfl, (by rw [upd_ne TW]; exact hT2), ixN_nat (by omega), ?_⟩
        exact ⟨_, wt.dropLast, _, _, rfl, Same.write (Same.write hG2 HW) HT, upd_same, by rw [upd_ne TW.symm, upd_same, List.map_dropLast], by rw [List.length_set]; exact htl, by rw [List.length_dropLast]; omega, (fun j hj => Nat.lt_succ_of_lt (hwj j (List.dropLast_subset _ hj))), hgo'⟩
    · rintro σ G ⟨tg, wt, v3, v4, rfl, hG, hT, hW, htl, hwl, hwj, hgo⟩
      rw [List.drop_of_length_le (by omega)] at hgo
      have e : tg = tgF := Option.some.inj hgo
      subst e
      refine ⟨_, rfl, T0, _, rfl, .inl ⟨SqL.of hT, fun t nt => ?_⟩⟩
      exact k t _ (hG.trans (Same.new nt)) (SqT.of upd_same)
end
end K14

set_option Elab.async false
set_option linter.all false
set_option maxRecDepth 100000
set_option maxHeartbeats 8000000
/-! Outlines, b: the class -/
namespace K14
open PySem L2
abbrev sOI : Stmt := inClass (top 25) 0
abbrev sStepAt : Stmt := inClass (top 25) 1
abbrev sTargetAt : Stmt := inClass (top 25) 2
abbrev sMany : Stmt := inClass (top 25) 3
theorem PSs.ghost {X : Cx} {st : List Stmt} : PSs X st (fun _ _ _ => False) := ⟨fun _ _ _ _ _ _ z => z.elim⟩
theorem PS.ghost {X : Cx} {st : Stmt} : PS X st (fun _ _ _ => False) := ⟨fun _ _ _ _ _ _ z => z.elim⟩
theorem kRS : ¬ (("rows" : Str) = "steps") := by decide +kernel
theorem kRT : ¬ (("rows" : Str) = "targets") := by decide +kernel
theorem kST : ¬ (("steps" : Str) = "targets") := by decide +kernel
/-- an outline's fields -/
def oFl (r s t : Addr) : List (Str × V) := putF "targets" (.ref t) (putF "steps" (.ref s) (putF "rows" (.ref r) []))
theorem oFl_r (r s t : Addr) : (oFl r s t).lookup ("rows" : Str) = some (.ref r) := by
  unfold oFl
  rw [lookup_putF, if_neg kRT, lookup_putF, if_neg kRS, lookup_putF, if_pos rfl]
theorem oFl_s (r s t : Addr) : (oFl r s t).lookup ("steps" : Str) = some (.ref s) := by
  unfold oFl
  rw [lookup_putF, if_neg kST, lookup_putF, if_pos rfl]
theorem oFl_t (r s t : Addr) : (oFl r s t).lookup ("targets" : Str) = some (.ref t) := by
  unfold oFl
  rw [lookup_putF, if_pos rfl]
theorem oFl_no (r s t : Addr) {m : Str} (h1 : ¬ m = "rows") (h2 : ¬ m = "steps") (h3 : ¬ m = "targets") : (oFl r s t).lookup m = none := by
  unfold oFl
  rw [lookup_putF, if_neg h3, lookup_putF, if_neg h2, lookup_putF, if_neg h1]
  all_goals rfl
structure TxtO (K : PySem.W.Frag) (mg : Str → Option Value) (C : Addr) : Prop where
  cl : Cls K C
  nR : NoAttr K C "rows"
  nS : NoAttr K C "steps"
  nT : NoAttr K C "targets"
  mgC : mg "Outline" = some (.ref C)
/-- an outline stands at p -/
structure OutAt (K : PySem.W.Frag) (C : Addr) (H : Hp) (p : Addr) (rows : List Str) (xs : List V) (sts : List St) (tg : List V) : Prop where
  ob : ∃ dx r s t, H p = some (.ins C dx (oFl r s t)) ∧ SqT K H r (rows.map V.str) ∧ SqT K H s xs ∧ SqT K H t tg
  st : StsAt K H xs sts
theorem StsAt.keep {K : PySem.W.Frag} {H H' : Hp} (t : Tk H H') : ∀ {xs : List V} {sts : List St}, StsAt K H xs sts → StsAt K H' xs sts
  | _, _, .nil => .nil
  | _, _, .cons h r => .cons ⟨h.1.keep t, h.2⟩ (StsAt.keep t r)
theorem OutAt.keep {K : PySem.W.Frag} {C : Addr} {H H' : Hp} {p : Addr} {rows : List Str} {xs : List V} {sts : List St} {tg : List V} (h : OutAt K C H p rows xs sts tg) (s : Same H H') : OutAt K C H' p rows xs sts tg := by
  obtain ⟨⟨dx, r, u, t, e, h1, h2, h3⟩, h4⟩ := h
  exact ⟨⟨dx, r, u, t, s _ _ e, seqT s h1, seqT s h2, seqT s h3⟩, h4.keep (Same.tk s)⟩
/-- all but what stands at p is kept -/
def But (p : Addr) (H H' : Hp) : Prop := ∀ b o, H b = some o → b ≠ p → H' b = some o
theorem But.same {p : Addr} {H H' : Hp} (s : Same H H') : But p H H' := fun b o e _ => s b o e
theorem But.trans {p : Addr} {A B C : Hp} (h : But p A B) (k : But p B C) : But p A C := fun b o e n => k b o (h b o e n) n
theorem But.upd {p : Addr} {H : Hp} {o : HO} : But p H (upd H p o) := fun b u e n => by
  rw [upd_ne n]
  exact e
theorem But.tk {p : Addr} {H H' : Hp} {u : HO} (b : But p H H') (hp : H p = some u) (h1 : ∀ xs, u ≠ .tup xs := by intro _ z; cases z) (h2 : ∀ ob y, u ≠ .frz ob y := by intro _ _ z; cases z) : Tk H H' := fun K a xs h => by
  rcases h with (h | ⟨ob, h⟩) | h
  · exact .inl (.inl (b _ _ h fun z => h1 _ (by rw [z] at h; exact Option.some.inj (hp.symm.trans h))))
  · exact .inl (.inr ⟨ob, b _ _ h fun z => h2 _ _ (by rw [z] at h; exact Option.some.inj (hp.symm.trans h))⟩)
  · exact .inr h
theorem But.seq {p : Addr} {H H' : Hp} {u : HO} {K : PySem.W.Frag} {a : Addr} {xs : List V} (b : But p H H') (hp : H p = some u) (h : SqL K H a xs) (h1 : ∀ ys, u ≠ .lst ys := by intro _ z; cases z) (h2 : ∀ ob y, u ≠ .frz ob y := by intro _ _ z; cases z) : SqL K H' a xs := by
  rcases h with (h | ⟨ob, h⟩) | h
  · exact .inl (.inl (b _ _ h fun z => h1 _ (by rw [z] at h; exact Option.some.inj (hp.symm.trans h))))
  · exact .inl (.inr ⟨ob, b _ _ h fun z => h2 _ _ (by rw [z] at h; exact Option.some.inj (hp.symm.trans h))⟩)
  · exact .inr h
def spOI (K : PySem.W.Frag) (C : Addr) : Sp := fun vs H Q _ => ∃ (p dx ar as : Addr) (rows : List Str) (xs : List V) (sts : List St) (tg : List V), vs = [.ref p, .ref ar, .ref as] ∧ H p = some (.ins C dx []) ∧ SqL K H ar (rows.map V.str) ∧ SqL K H as xs ∧ StsAt K H xs sts ∧ sts.length ≤ 1000 ∧ tgM sts = some tg ∧
  ∀ H', But p H H' → OutAt K C H' p rows xs sts tg → Q .non H'
def spStepAt (K : PySem.W.Frag) (C : Addr) : Sp := fun vs H Q _ => ∃ (p : Addr) (rows : List Str) (xs : List V) (sts : List St) (tg : List V) (i : Nat) (v : V), vs = [.ref p, .int ((i + 1 : Nat) : Int)] ∧ OutAt K C H p rows xs sts tg ∧ xs[i]? = some v ∧ Q v H
def spTargetAt (K : PySem.W.Frag) (C : Addr) : Sp := fun vs H Q _ => ∃ (p : Addr) (rows : List Str) (xs : List V) (sts : List St) (tg : List V) (i : Nat) (v : V), vs = [.ref p, .int ((i + 1 : Nat) : Int)] ∧ OutAt K C H p rows xs sts tg ∧ tg[i]? = some v ∧ Q v H
def spMany (K : PySem.W.Frag) (C : Addr) : Sp := fun vs H Q _ => ∃ (p : Addr) (rows : List Str) (xs : List V) (sts : List St) (tg : List V), vs = [.ref p] ∧ OutAt K C H p rows xs sts tg ∧ Q (.int (xs.length : Nat)) H
section
variable {P : Program} {w : World} {K : PySem.W.Frag} {mg : Str → Option Value} {base : Heap}
theorem scOI : FnScope ["self", "rows", "steps"] ["self", "rows", "steps"] (defScope sOI) := ⟨rfl, rfl, rfl, by decide +kernel, rfl, by decide +kernel, by decide +kernel⟩
theorem ok_oinit {f C fT : Addr} {fd fdT : FuncData} (F : Fun K "__init__" "Outline.__init__" sOI f fd) (T : TxtN mg) (O : TxtO K mg C)
    (GT : FnOk P w K mg base CX0 1 fT fdT ["steps"] (spTargets K)) (kT : PySem.W.keepIn K (.ref fT) = true) (bT : Binds K fdT ["steps"] []) (gT : mg "targets_of" = some (.ref fT)) : FnOk P w K mg base CX0 2 f fd ["self", "rows", "steps"] (spOI K C) := by
  refine F.ok scOI (fun vs H Q E h => ?_) (fun cdv A outer s H vs Q E hr h => ?_)
  · obtain ⟨p, dx, ar, as, rows, xs, sts, tg, rfl, _⟩ := h
    rfl
  · obtain ⟨p, dx, ar, as, rows, xs, sts, tg, rfl, hp, har, has, hst, hlen, htg, k⟩ := h
    refine ⟨_, pss_cons (ps_fld (pv 0) (pe_callTy call_tuple_of (by rfl) T.tuple (by decide +kernel) (pa_cons (pv 1) pa_nil)) rfl)
      (pss_cons (ps_fld (pv 0) (pe_callTy call_tuple_of (by rfl) T.tuple (by decide +kernel) (pa_cons (pv 2) pa_nil)) rfl)
      (pss_one (ps_fld (pv 0) (pe_call GT hr rfl gT kT bT .nil pass0 (pa_cons (pv 2) pa_nil)) rfl))), ?_⟩
    refine ⟨_, rfl, ar, _, rfl, .inl ⟨har, fun t1 n1 => ?_⟩⟩
    have s1 := Same.new (o := .tup (rows.map V.str)) n1
    have b1 : But p H _ := But.trans (But.same s1) (But.upd (p := p) (o := .ins C dx (putF "rows" (.ref t1) [])))
    have p1 : t1 ≠ p := (ne_of_none hp n1).symm
    refine ⟨_, rfl, p, C, dx, [], rfl, s1 _ _ hp, O.cl, O.nR, (by show 0 < 1000; decide), ?_⟩
    refine ⟨_, rfl, as, _, rfl, .inl ⟨b1.seq hp has, fun t2 n2 => ?_⟩⟩
    have s2 := Same.new (o := .tup xs) n2
    have p2 : t2 ≠ p := (ne_of_none upd_same n2).symm
    refine ⟨_, rfl, p, C, dx, _, rfl, s2 _ _ upd_same, O.cl, O.nS, (by show 1 < 1000; decide), ?_⟩
    have b2 : But p H _ := But.trans (But.trans b1 (But.same s2)) (But.upd (p := p) (o := .ins C dx (putF "steps" (.ref t2) (putF "rows" (.ref t1) []))))
    refine ⟨_, rfl, as, xs, sts, tg, rfl, b2.seq hp has, hst.keep (b2.tk hp), hlen, htg, fun t3 G s3 h3 => ?_⟩
    refine ⟨_, rfl, p, C, dx, _, rfl, s3 _ _ upd_same, O.cl, O.nT, (by show 2 < 1000; decide), ?_⟩
    have pG := s3 _ _ (upd_same (a := p))
    have b3 : But p H _ := But.trans (But.trans b2 (But.same s3)) (But.upd (p := p) (o := .ins C dx (oFl t1 t2 t3)))
    refine k _ b3 ⟨⟨dx, t1, t2, t3, upd_same, ?_, ?_, But.tk But.upd pG (by intro _ z; cases z) (by intro _ _ z; cases z) K _ _ h3⟩, hst.keep (b3.tk hp)⟩
    · refine SqT.of ?_
      rw [upd_ne p1]
      refine s3 _ _ ?_
      rw [upd_ne p1]
      refine s2 _ _ ?_
      rw [upd_ne p1]
      exact upd_same
    · refine SqT.of ?_
      rw [upd_ne p2]
      refine s3 _ _ ?_
      rw [upd_ne p2]
      exact upd_same
theorem scStepAt : FnScope ["self", "line"] ["self", "line"] (defScope sStepAt) := ⟨rfl, rfl, rfl, by decide +kernel, rfl, by decide +kernel, by decide +kernel⟩
theorem ok_stepat {f C : Addr} {fd : FuncData} (F : Fun K "step_at" "Outline.step_at" sStepAt f fd) (O : TxtO K mg C) : FnOk P w K mg base CX0 1 f fd ["self", "line"] (spStepAt K C) := by
  refine F.ok scStepAt (fun vs H Q E h => ?_) (fun cdv A outer s H vs Q E hr h => ?_)
  · obtain ⟨p, rows, xs, sts, tg, i, v, rfl, _⟩ := h
    rfl
  · obtain ⟨p, rows, xs, sts, tg, i, v, rfl, hO, hv, k⟩ := h
    obtain ⟨⟨dx, r, u, t, e, h1, h2, h3⟩, h4⟩ := hO
    refine ⟨_, pss_one (ps_ret (pe_ix ix_tup (pe_fld (pv 0) rfl) (pe_op op_sub (pv 1) pe_int) (fun _ _ => rfl))), ?_⟩
    refine ⟨_, rfl, p, C, dx, _, _, rfl, e, O.cl, O.nS, oFl_s _ _ _, _, rfl, _, _, rfl, rfl, u, _, _, _, rfl, rfl, h2, ?_, k⟩
    rw [show ((i + 1 : Nat) : Int) - 1 = (i : Int) by omega]
    exact atI_nat hv
theorem scTargetAt : FnScope ["self", "line"] ["self", "line"] (defScope sTargetAt) := ⟨rfl, rfl, rfl, by decide +kernel, rfl, by decide +kernel, by decide +kernel⟩
theorem ok_targetat {f C : Addr} {fd : FuncData} (F : Fun K "target_at" "Outline.target_at" sTargetAt f fd) (O : TxtO K mg C) : FnOk P w K mg base CX0 1 f fd ["self", "line"] (spTargetAt K C) := by
  refine F.ok scTargetAt (fun vs H Q E h => ?_) (fun cdv A outer s H vs Q E hr h => ?_)
  · obtain ⟨p, rows, xs, sts, tg, i, v, rfl, _⟩ := h
    rfl
  · obtain ⟨p, rows, xs, sts, tg, i, v, rfl, hO, hv, k⟩ := h
    obtain ⟨⟨dx, r, u, t, e, h1, h2, h3⟩, h4⟩ := hO
    refine ⟨_, pss_one (ps_ret (pe_ix ix_tup (pe_fld (pv 0) rfl) (pe_op op_sub (pv 1) pe_int) (fun _ _ => rfl))), ?_⟩
    refine ⟨_, rfl, p, C, dx, _, _, rfl, e, O.cl, O.nT, oFl_t _ _ _, _, rfl, _, _, rfl, rfl, t, _, _, _, rfl, rfl, h3, ?_, k⟩
    rw [show ((i + 1 : Nat) : Int) - 1 = (i : Int) by omega]
    exact atI_nat hv
theorem scMany : FnScope ["self"] ["self"] (defScope sMany) := ⟨rfl, rfl, rfl, by decide +kernel, rfl, by decide +kernel, by decide +kernel⟩
theorem ok_many {f C : Addr} {fd : FuncData} (F : Fun K "many_lines" "Outline.many_lines" sMany f fd) (T : TxtN mg) (O : TxtO K mg C) : FnOk P w K mg base CX0 1 f fd ["self"] (spMany K C) := by
  refine F.ok scMany (fun vs H Q E h => ?_) (fun cdv A outer s H vs Q E hr h => ?_)
  · obtain ⟨p, rows, xs, sts, tg, rfl, _⟩ := h
    rfl
  · obtain ⟨p, rows, xs, sts, tg, rfl, hO, k⟩ := h
    obtain ⟨⟨dx, r, u, t, e, h1, h2, h3⟩, h4⟩ := hO
    refine ⟨_, pss_one (ps_ret (pe_callB call_len_seq (by rfl) T.len PySem.boot_len (pa_cons (pe_fld (pv 0) rfl) pa_nil))), ?_⟩
    exact ⟨_, rfl, p, C, dx, _, _, rfl, e, O.cl, O.nS, oFl_s _ _ _, u, _, rfl, .inr h2, k⟩
end
end K14

set_option Elab.async false
set_option linter.all false
set_option maxRecDepth 100000
set_option maxHeartbeats 8000000
/-! Outlines, c: a line read -/
namespace K14
open PySem L2
/-- a line's tuple as a thing that it does -/
def ofD : PyData → Option St
  | .tuple (.str so :: .str n :: ds) => some (.set so n ds ())
  | .tuple [.str s] => some (.fin s)
  | _ => none
def stepS (kd : Str) (ws : List Str) : Option St := (stepM kd ws).bind ofD
def Act (d : PyData) : Prop := d = .tuple [.str "quit"] ∨ d = .tuple [.str "no"] ∨ ∃ (so n : Str) (ds : List PyData), d = .tuple (.str so :: .str n :: ds) ∧ so ∈ actsL
theorem act_of {d : PyData} (h : Act d) : ∃ st, ofD d = some st ∧ st.d = d ∧ st.Ok := by
  rcases h with rfl | rfl | ⟨so, n, ds, rfl, h⟩
  · exact ⟨.fin "quit", rfl, rfl, .inl rfl⟩
  · exact ⟨.fin "no", rfl, rfl, .inr rfl⟩
  · exact ⟨.set so n ds (), rfl, rfl, h⟩
theorem reg_act {ws : List Str} {d : PyData} (h : regM ws = some d) : Act d := by
  unfold regM at h
  split at h
  · cases h; exact .inr (.inr ⟨_, _, _, rfl, by decide +kernel⟩)
  split at h
  · cases h; exact .inr (.inr ⟨_, _, _, rfl, by decide +kernel⟩)
  · obtain ⟨acc, _, rfl⟩ := Option.map_eq_some_iff.mp h
    exact .inr (.inr ⟨_, _, _, rfl, by decide +kernel⟩)
theorem place_act {ws : List Str} {d : PyData} (h : placeM ws = some d) : Act d := by
  unfold placeM at h
  split at h
  · cases h; exact .inr (.inr ⟨_, _, _, rfl, by decide +kernel⟩)
  split at h
  · cases h
  split at h
  · cases h; exact .inr (.inr ⟨_, _, _, rfl, by decide +kernel⟩)
  split at h
  · cases h
  · obtain ⟨acc, _, rfl⟩ := Option.map_eq_some_iff.mp h
    exact .inr (.inr ⟨_, _, _, rfl, by decide +kernel⟩)
theorem head_act {w : Str} {a : Option Acc} {u v : Option Bool} {d : PyData} (h : headM w a u v = some d) : Act d := by
  unfold headM at h
  split at h
  · cases h; exact .inr (.inr ⟨_, _, _, rfl, by decide +kernel⟩)
  · cases h
theorem sized_act {ws : List Str} {d : PyData} (h : sizedM ws = some d) : Act d := by
  unfold sizedM at h
  split at h
  · cases h
  split at h
  · exact head_act h
  · obtain ⟨acc, _, rfl⟩ := Option.map_eq_some_iff.mp h
    refine .inr (.inr ⟨_, _, _, rfl, ?_⟩)
    split <;> decide +kernel
theorem flag_act {ws : List Str} {d : PyData} (h : flagStepM ws = some d) : Act d := by
  unfold flagStepM at h
  dsimp only at h
  split at h
  all_goals
    split at h
    · obtain ⟨u, _, rfl⟩ := Option.map_eq_some_iff.mp h
      exact .inr (.inr ⟨_, _, _, rfl, by decide +kernel⟩)
    · cases h
theorem tie_act {ws : List Str} {d : PyData} (h : tieM ws = some d) : Act d := by
  unfold tieM at h
  split at h
  · cases h; exact .inr (.inr ⟨_, _, _, rfl, by decide +kernel⟩)
  · cases h
theorem step_act {kd : Str} {ws : List Str} {d : PyData} (h : stepM kd ws = some d) : Act d := by
  unfold stepM at h
  split at h
  · rename_i hq
    cases h
    rcases hq with rfl | rfl
    · exact .inl rfl
    · exact .inr (.inl rfl)
  split at h
  · split at h
    · exact reg_act h
    split at h
    · exact place_act h
    · cases h
  split at h
  · exact sized_act h
  split at h
  · exact flag_act h
  split at h
  · exact tie_act h
  · cases h
theorem step_d (kd : Str) (ws : List Str) : stepM kd ws = (stepS kd ws).map St.d := by
  unfold stepS
  cases e : stepM kd ws with
  | none => rfl
  | some d =>
    obtain ⟨st, h1, h2, _⟩ := act_of (step_act e)
    show some d = (ofD d).map St.d
    rw [h1]
    exact congrArg some h2.symm
theorem step_ok {kd : Str} {ws : List Str} {st : St} (h : stepS kd ws = some st) : st.Ok := by
  unfold stepS at h
  cases e : stepM kd ws with
  | none => rw [e] at h; cases h
  | some d =>
    rw [e] at h
    obtain ⟨st', h1, _, h3⟩ := act_of (step_act e)
    have h' : ofD d = some st := h
    rw [h1] at h'
    cases h'
    exact h3
theorem part_head {kd : Str} {ws : List Str} {d : PyData} (h : hPartM kd ws = some d) : ∃ (s : Str) (r : List PyData), d = .tuple (.str s :: r) := by
  unfold hPartM at h
  split at h
  · cases h; exact ⟨_, _, rfl⟩
  split at h
  · cases h; exact ⟨_, _, rfl⟩
  split at h
  · cases h; exact ⟨_, _, rfl⟩
  · unfold compM at h
    split at h
    · split at h
      · split at h
        · cases h; exact ⟨_, _, rfl⟩
        · cases h
      · cases h
    · cases h
def shapeD (p : Bool × Str × List PyData) : PyData := .tuple [.bool p.1, .tuple (.str p.2.1 :: p.2.2)]
theorem parts_shape {kd : Str} : ∀ {l : List (List Str)} {acc out : List PyData} {qs : List (Bool × Str × List PyData)}, acc = qs.map shapeD → partsGo (hPartM kd) l acc = some out → ∃ ps : List (Bool × Str × List PyData), out = ps.map shapeD ∧ ps.length = qs.length + l.length
  | [], acc, out, qs, ha, h => by
    have h' : some acc = some out := h
    cases h'
    exact ⟨qs, ha, by simp⟩
  | p :: r, acc, out, qs, ha, h => by
    have h' : (match partD (hPartM kd) p with
      | none => none
      | some d => partsGo (hPartM kd) r (acc ++ [d])) = some out := h
    cases e : partD (hPartM kd) p with
    | none => rw [e] at h'; cases h'
    | some d =>
      rw [e] at h'
      unfold partD at e
      obtain ⟨d0, e0, rfl⟩ := Option.map_eq_some_iff.mp e
      obtain ⟨s, rr, rfl⟩ := part_head e0
      obtain ⟨ps, h1, h2⟩ := parts_shape (qs := qs ++ [(decide (p.take 1 ≠ [("not" : Str)]), s, rr)]) (by rw [List.map_append, ha]; rfl) h'
      exact ⟨ps, h1, by rw [h2, List.length_append, List.length_cons]; simp; omega⟩
theorem test_ok {kd : Str} {ws : List Str} {t : PyData} (h : testM (hPartM kd) ws = some t) : (St.iff t).Ok := by
  unfold testM at h
  split at h
  · cases h
  · rename_i hl
    obtain ⟨out, h1, rfl⟩ := Option.map_eq_some_iff.mp h
    obtain ⟨ps, h2, h3⟩ := parts_shape (qs := []) rfl h1
    exact ⟨ps, by rw [h2]; rfl, by rw [h3]; simp; omega⟩
/-- a line read: what it does, the open blocks behind it -/
def readS (kd : Str) (ws nest : List Str) : Option (St × List Str) := if ws.getD 0 Str.empty = "if" then (testM (hPartM kd) (ws.drop 1)).map fun t => (.iff t, nest ++ [("if" : Str)])
  else if ws = [("else" : Str)] then (if nest = [] ∨ nest.getLast? = some ("else" : Str) then none else some (.els, nest.dropLast ++ [("else" : Str)]))
  else if ws = [("end" : Str)] then (if nest = [] then none else some (.nd, nest.dropLast))
  else (stepS kd ws).map fun st => (st, nest)
theorem read_ok {kd : Str} {ws nest n2 : List Str} {st : St} (h : readS kd ws nest = some (st, n2)) : st.Ok := by
  unfold readS at h
  split at h
  · cases e : testM (hPartM kd) (ws.drop 1) with
    | none => rw [e] at h; cases h
    | some t => rw [e] at h; cases h; exact test_ok e
  split at h
  · split at h
    · cases h
    · cases h; trivial
  split at h
  · split at h
    · cases h
    · cases h; trivial
  · cases e : stepS kd ws with
    | none => rw [e] at h; cases h
    | some s => rw [e] at h; cases h; exact step_ok e
/-- no open while -/
def NoWh (nest : List Str) : Prop := ∀ x ∈ nest, ¬ x = ("while" : Str)
theorem NoWh.nil : NoWh [] := fun _ z => by cases z
theorem read_noWh {kd : Str} {ws nest n2 : List Str} {st : St} (h : readS kd ws nest = some (st, n2)) (hn : NoWh nest) : NoWh n2 := by
  have dl : ∀ x ∈ nest.dropLast, ¬ x = ("while" : Str) := fun x hx => hn x (List.dropLast_subset _ hx)
  unfold readS at h
  split at h
  · cases e : testM (hPartM kd) (ws.drop 1) with
    | none => rw [e] at h; cases h
    | some t =>
      rw [e] at h
      cases h
      intro x hx
      rcases List.mem_append.mp hx with hx | hx
      · exact hn x hx
      · rw [List.mem_singleton.mp hx]; decide +kernel
  split at h
  · split at h
    · cases h
    · cases h
      intro x hx
      rcases List.mem_append.mp hx with hx | hx
      · exact dl x hx
      · rw [List.mem_singleton.mp hx]; decide +kernel
  split at h
  · split at h
    · cases h
    · cases h
      exact dl
  · cases e : stepS kd ws with
    | none => rw [e] at h; cases h
    | some s => rw [e] at h; cases h; exact hn
def ReadV (K : PySem.W.Frag) (H : Hp) (v : V) (nest' : List Str) : Option (St × List Str) → Prop
  | none => v = .non
  | some (st, n2) => nest' = n2 ∧ v ≠ .non ∧ TDp K H v st.d
def spRead (K : PySem.W.Frag) (fS fP : Addr) : Sp := fun vs H Q _ => ∃ (a N : Addr) (ws nest : List Str) (kd : Str), vs = [.ref a, .str kd, .ref fS, .ref fP, .non, .ref N] ∧ NoWh nest ∧ kd ∈ kindsL ∧ SqL K H a (ws.map V.str) ∧ WsOk ws ∧ ws ≠ [] ∧ ws.length ≤ 1000 ∧
  H N = some (.lst (nest.map V.str)) ∧ nest.length ≤ 1000 ∧ ∀ (v : V) (H' : Hp) (nest' : List Str), But N H H' → H' N = some (.lst (nest'.map V.str)) → ReadV K H' v nest' (readS kd ws nest) → Q v H'
theorem nest_lastV {nest : List Str} {l : Str} (e : nest.getLast? = some l) : (nest.map V.str)[(nest.map V.str).length - 1]? = some (.str l) := by
  rw [List.length_map, List.getElem?_map, ← List.getLast?_eq_getElem?, e]
  rfl
theorem and_nest {K : PySem.W.Frag} {N : Addr} {nest : List Str} {tB : TT} {σ : L2.St} {H : Hp} {Q : Bool → Hp → Prop} (h5 : σ[5]? = some (some (.ref N))) (hN : H N = some (.lst (nest.map V.str))) (hnw : NoWh nest) (q : Q false H) :
    tAnd (fun σ H Q => tVar 5 σ H fun x H' => ∃ k, TruV K x H' k ∧ Q k H') (tAnd (tTest (tOp rEq (tOp (rIxL K) (tVar 5) (tUn (rU fun i => V.int (-i)) (tC (V.int 1)))) (tC (V.str "while")))) tB) σ H Q := by
  refine ⟨_, h5, ?_⟩
  by_cases hne : nest = []
  · refine ⟨false, .inl ⟨_, SqL.of hN, by rw [hne]; rfl⟩, ?_⟩
    exact iteF q
  · refine ⟨true, .inl ⟨_, SqL.of hN, by
      cases nest with
      | nil => exact absurd rfl hne
      | cons x r => rfl⟩, ?_⟩
    refine iteT ?_
    cases el : nest.getLast? with
    | none => exact absurd (List.getLast?_eq_none_iff.mp el) hne
    | some l =>
    have hpos : 1 ≤ nest.length := List.length_pos_iff.mpr hne
    have hat : atI (nest.map V.str) (-1) = some (.str (nest.getD (nest.length - 1) Str.empty)) := at_neg (ws := nest) (i := 1) (by decide) hpos
    have hl : nest.getD (nest.length - 1) Str.empty ∈ nest := by
      rw [List.getD_eq_getElem?_getD, List.getElem?_eq_getElem (by omega)]
      exact List.getElem_mem _
    refine ⟨_, h5, _, rfl, N, _, -1, _, rfl, rfl, SqL.of hN, hat, rfl, _, rfl, ?_⟩
    exact ifF3 (decide_eq_false fun z => hnw _ hl (V.str.inj z)) q
theorem and_while {K : PySem.W.Frag} {a : Addr} {ws : List Str} {σ : L2.St} {H : Hp} {Q : Bool → Hp → Prop} (h0 : σ[0]? = some (some (.ref a))) (h4 : σ[4]? = some (some .non)) (ha : SqL K H a (ws.map V.str)) (hne : ws ≠ []) (q : Q false H) :
    tAnd (tTest (tOp rEq (tOp (rIxL K) (tVar 0) (tC (V.int 0))) (tC (V.str "while")))) (tTest (tOp (fun x y H Q => y = V.non ∧ Q (V.bl !decide (x = V.non)) H) (tVar 4) (tC V.non))) σ H Q := by
  have at0 := at_pos (ws := ws) (i := 0) (List.length_pos_iff.mpr hne)
  refine ⟨_, h0, a, _, 0, _, rfl, rfl, ha, at0, rfl, _, rfl, ?_⟩
  refine ite2 (fun _ => ?_) (fun _ => ?_)
  · exact ⟨_, h4, rfl, _, rfl, q⟩
  · exact q
section
variable {P : Program} {w : World} {K : PySem.W.Frag} {mg : Str → Option Value} {base : Heap}
theorem scRead : FnScope ["words", "kind", "step_in", "part_in", "loop_in", "nest", "test"] ["words", "kind", "step_in", "part_in", "loop_in", "nest"] (defScope sRead) := ⟨rfl, rfl, rfl, by decide +kernel, rfl, by decide +kernel, by decide +kernel⟩
theorem ok_read {f fT fS fP : Addr} {fd fdT fdS : FuncData} (F : Fun K "read_line" "read_line" sRead f fd)
    (GT : FnOk P w K mg base CX0 5 fT fdT ["words", "part_in", "kind"] (spTestIn K fP kindsL hPartM)) (kT : PySem.W.keepIn K (.ref fT) = true) (bT : Binds K fdT ["words", "part_in", "kind"] []) (gT : mg "test_in" = some (.ref fT))
    (GS : FnOk P w K mg base CX0 5 fS fdS ["words", "kind"] (spStepIn K kindsL stepM)) (kS : PySem.W.keepIn K (.ref fS) = true) (bS : Binds K fdS ["words", "kind"] []) : FnOk P w K mg base CX0 6 f fd ["words", "kind", "step_in", "part_in", "loop_in", "nest"] (spRead K fS fP) := by
  refine F.ok scRead (fun vs H Q E h => ?_) (fun cdv A outer s H vs Q E hr h => ?_)
  · obtain ⟨a, N, ws, nest, kd, rfl, _⟩ := h
    rfl
  · obtain ⟨a, N, ws, nest, kd, rfl, hnw, hkd, ha, hok, hne, hlen, hN, hnl, k⟩ := h
    have hr4 : Room 4 _ := hr.mono (by decide)
    refine ⟨_, pss_cons (ps_if (PW.pt (pw_and (pt_truth (pv 5) (by intro _; rfl)) (pw_and (pt_cmpR op_eq (pe_ix ix_list (pv 5) (pe_un un_neg pe_int) (fun _ _ => rfl)) pe_str (nomark _)) (pw_and1 (pt_cmpR (op_neD hr.units) (pv 0) (pe_lst (pa_cons pe_str pa_nil)) (nomark _)))))) (pss_one PS.ghost) pss_nil)
      (pss_cons (ps_if (PW.pt (pw_and (pt_cmpR op_eq (pe_ix ix_list (pv 0) pe_int (fun _ _ => rfl)) pe_str (nomark _)) (pw_and1 (pt_cmpR op_notN (pv 4) pe_non (nomark _))))) (pss_one PS.ghost) pss_nil)
      (pss_cons (ps_if (pt_cmpR op_eq (pe_ix ix_list (pv 0) pe_int (fun _ _ => rfl)) pe_str (nomark _))
        (pss_cons (ps_set (i := 6) scRead.nd rfl (.inl rfl) (pe_call GT hr rfl gT kT bT .nil pass0 (pa_cons (pe_slice sl_list (pv 0) (po_some pe_int) po_none) (pa_cons (pv 3) (pa_cons (pv 1) pa_nil)))))
        (pss_cons (ps_if (pt_cmpR op_isN (pv 6) pe_non (nomark _)) (pss_one (ps_ret pe_non)) pss_nil)
        (pss_cons (ps_expr (pe_bm PySem.F.plainAttrs_list PySem.F.slot_list_append PySem.F.type_list_append mt_append (pv 5) (pa_cons pe_str pa_nil)))
        (pss_one (ps_ret (pe_tup (pa_cons pe_str (pa_cons (pv 6) pa_nil)))))))) pss_nil)
      (pss_cons (ps_if (pt_cmpR (op_eqD hr.units) (pv 0) (pe_lst (pa_cons pe_str pa_nil)) (nomark _))
        (pss_cons (ps_if (PW.pt (pw_or (pt_not (pt_truth (pv 5) (by intro _; rfl))) (pw_or1 (pt_cmpR op_eq (pe_bm0 PySem.F.plainAttrs_list PySem.F.slot_list_pop PySem.F.type_list_pop mt_pop (pv 5)) pe_str (nomark _))))) (pss_one (ps_ret pe_non)) pss_nil)
        (pss_cons (ps_expr (pe_bm PySem.F.plainAttrs_list PySem.F.slot_list_append PySem.F.type_list_append mt_append (pv 5) (pa_cons pe_str pa_nil)))
        (pss_one (ps_ret (pe_tup (pa_cons pe_str pa_nil)))))) pss_nil)
      (pss_cons (ps_if (pt_cmpR (op_eqD hr.units) (pv 0) (pe_lst (pa_cons pe_str pa_nil)) (nomark _))
        (pss_cons (ps_if (pt_not (pt_truth (pv 5) (by intro _; rfl))) (pss_one (ps_ret pe_non)) pss_nil)
        (pss_cons (ps_expr (pe_bm0 PySem.F.plainAttrs_list PySem.F.slot_list_pop PySem.F.type_list_pop mt_pop (pv 5)))
        (pss_one (ps_ret (pe_tup (pa_cons pe_str pa_nil)))))) pss_nil)
      (pss_one (ps_ret (pe_callL (i := 2) GS hr rfl (Or.inl rfl) kS bS .nil pass0 (pa_cons (pv 0) (pa_cons (pv 1) pa_nil))))))))), ?_⟩
    have at0 := at_pos (ws := ws) (i := 0) (List.length_pos_iff.mpr hne)
    refine and_nest (N := N) (nest := nest) rfl hN hnw (iteF ?_)
    refine and_while (a := a) (ws := ws) rfl rfl ha hne (iteF ?_)
    refine ⟨_, rfl, a, _, 0, _, rfl, rfl, ha, at0, rfl, _, rfl, ?_⟩
    by_cases h1 : ws.getD 0 Str.empty = "if"
    · have hM : readS kd ws nest = (testM (hPartM kd) (ws.drop 1)).map fun t => (.iff t, nest ++ [("if" : Str)]) := if_pos h1
      refine ifT3 (decide_eq_true (congrArg V.str h1)) ?_
      have cl : cutV (ws.map V.str) (some 1) none = (ws.drop 1).map V.str := cut_lo ws 1
      refine ⟨_, rfl, _, rfl, a, _, rfl, ha, fun q nq => ?_⟩
      rw [cl]
      have sq := Same.new (o := .lst ((ws.drop 1).map V.str)) nq
      refine ⟨_, rfl, _, rfl, q, ws.drop 1, kd, rfl, hkd, SqL.of upd_same, (fun w hw => hok w (List.mem_of_mem_drop hw)), by rw [List.length_drop]; omega, fun v G s2 res => ?_⟩
      have sG := sq.trans s2
      refine ⟨_, rfl, rfl, _, rfl, ?_⟩
      cases o : testM (hPartM kd) (ws.drop 1) with
      | none =>
        rw [o] at res hM
        have rv : v = .non := res
        subst rv
        refine iteT ?_
        exact k _ _ nest (But.same sG) (sG _ _ hN) (by rw [hM]; rfl)
      | some t =>
        rw [o] at res hM
        refine ifF3 (decide_eq_false res.1) ?_
        have GN := sG _ _ hN
        refine ⟨_, rfl, .inl ⟨rfl, _, SqL.of GN⟩, N, _, _, rfl, rfl, GN, small1000 (by rw [List.length_map]; omega), ?_⟩
        refine ⟨_, rfl, (by show 2 ≤ sizeLine; decide), fun p np => ?_⟩
        have bw : But N H _ := But.trans (But.same sG) (But.trans (But.upd (p := N) (o := .lst (nest.map V.str ++ [V.str "if"]))) (But.same (Same.new (o := .tup [.str "if", v]) np)))
        refine k _ _ (nest ++ [("if" : Str)]) bw ?_ ?_
        · rw [List.map_append]
          exact Same.new np _ _ upd_same
        · rw [hM]
          exact ⟨rfl, (by intro z; cases z), .tup (SqT.of upd_same) (.cons (.str _) (.cons ((res.2.keep (Tk.write GN)).keep (Same.tk (Same.new np))) .nil))⟩
    refine ifF3 (decide_eq_false fun z => h1 (V.str.inj z)) ?_
    have dW : ∀ G, Same H G → Dp K G (.ref a) (.list (ws.map PyData.str)) := fun G hG => .lst (hG.seq ha) (dpWs _)
    have lW := shapedWs hok
    have lastS : ∀ l, nest.getLast? = some l → (nest.map V.str)[(nest.map V.str).length - 1]? = some (.str l) := fun l e => by
      rw [List.length_map, List.getElem?_map, ← List.getLast?_eq_getElem?, e]
      rfl
    have nemp : ¬ nest = [] → true = !(nest.map V.str).isEmpty := fun z => by
      cases nest with
      | nil => exact absurd rfl z
      | cons x r => rfl
    refine ⟨_, rfl, (by show 1 ≤ sizeLine; decide), fun q nq => ?_⟩
    have sq := Same.new (o := .lst [.str "else"]) nq
    refine ⟨_, .list ([("else" : Str)].map PyData.str), dW _ sq, .lst (SqL.of (xs := [("else" : Str)].map V.str) upd_same) (dpWs _), lW, by decide +kernel, ?_⟩
    rw [eqvL]
    refine ⟨_, rfl, ?_⟩
    by_cases h2 : ws = [("else" : Str)]
    · have hM : readS kd ws nest = if nest = [] ∨ nest.getLast? = some ("else" : Str) then none else some (.els, nest.dropLast ++ [("else" : Str)]) := by
        unfold readS
        rw [if_neg h1, if_pos h2]
      refine ifT3 (decide_eq_true h2) ?_
      have GN := sq _ _ hN
      by_cases hne2 : nest = []
      · refine ⟨_, rfl, false, .inl ⟨_, SqL.of GN, by rw [hne2]; rfl⟩, ?_⟩
        refine iteT ?_
        exact k _ _ nest (But.same sq) GN (by rw [hM, if_pos (.inl hne2)]; rfl)
      refine ⟨_, rfl, true, .inl ⟨_, SqL.of GN, nemp hne2⟩, ?_⟩
      refine iteF ?_
      cases el : nest.getLast? with
      | none => exact absurd (List.getLast?_eq_none_iff.mp el) hne2
      | some l =>
      refine ⟨_, rfl, .inl ⟨rfl, _, SqL.of GN⟩, N, _, _, rfl, rfl, GN, lastS l el, rfl, _, rfl, ?_⟩
      have b1 : But N H _ := But.trans (But.same sq) (But.upd (p := N) (o := .lst (nest.map V.str).dropLast))
      have G2 : (upd (upd H q (.lst [.str "else"])) N (.lst (nest.map V.str).dropLast)) N = some (.lst (nest.dropLast.map V.str)) := by
        rw [upd_same, List.map_dropLast]
      by_cases hl : l = "else"
      · refine ifT3 (decide_eq_true (congrArg V.str hl)) ?_
        exact k _ _ nest.dropLast b1 G2 (by rw [hM, if_pos (.inr (by rw [el, hl]))]; rfl)
      refine ifF3 (decide_eq_false fun z => hl (V.str.inj z)) ?_
      refine ⟨_, rfl, .inl ⟨rfl, _, SqL.of G2⟩, N, _, _, rfl, rfl, G2, small1000 (by rw [List.length_map, List.length_dropLast]; omega), ?_⟩
      refine ⟨(by show 1 ≤ sizeLine; decide), fun p np => ?_⟩
      have bw : But N H _ := But.trans b1 (But.trans (But.upd (p := N) (o := .lst (nest.dropLast.map V.str ++ [V.str "else"]))) (But.same (Same.new (o := .tup [.str "else"]) np)))
      refine k _ _ (nest.dropLast ++ [("else" : Str)]) bw ?_ ?_
      · rw [List.map_append]
        exact Same.new np _ _ upd_same
      · rw [hM, if_neg (fun z => by
          rcases z with z | z
          · exact hne2 z
          · rw [el] at z; exact hl (Option.some.inj z))]
        exact ⟨rfl, (by intro z; cases z), .tup (SqT.of upd_same) (.cons (.str _) .nil)⟩
    refine ifF3 (decide_eq_false h2) ?_
    refine ⟨_, rfl, (by show 1 ≤ sizeLine; decide), fun q2 nq2 => ?_⟩
    have sq2 := sq.trans (Same.new (o := .lst [.str "end"]) nq2)
    refine ⟨_, .list ([("end" : Str)].map PyData.str), dW _ sq2, .lst (SqL.of (xs := [("end" : Str)].map V.str) upd_same) (dpWs _), lW, by decide +kernel, ?_⟩
    rw [eqvL]
    refine ⟨_, rfl, ?_⟩
    by_cases h3 : ws = [("end" : Str)]
    · have hM : readS kd ws nest = if nest = [] then none else some (.nd, nest.dropLast) := by
        unfold readS
        rw [if_neg h1, if_neg h2, if_pos h3]
      refine ifT3 (decide_eq_true h3) ?_
      have GN := sq2 _ _ hN
      by_cases hne2 : nest = []
      · refine ⟨_, rfl, false, .inl ⟨_, SqL.of GN, by rw [hne2]; rfl⟩, ?_⟩
        refine iteT ?_
        exact k _ _ nest (But.same sq2) GN (by rw [hM, if_pos hne2]; rfl)
      refine ⟨_, rfl, true, .inl ⟨_, SqL.of GN, nemp hne2⟩, ?_⟩
      refine iteF ?_
      cases el : nest.getLast? with
      | none => exact absurd (List.getLast?_eq_none_iff.mp el) hne2
      | some l =>
      refine ⟨_, rfl, .inl ⟨rfl, _, SqL.of GN⟩, N, _, _, rfl, rfl, GN, lastS l el, ?_⟩
      refine ⟨(by show 1 ≤ sizeLine; decide), fun p np => ?_⟩
      have bw : But N H _ := But.trans (But.same sq2) (But.trans (But.upd (p := N) (o := .lst (nest.map V.str).dropLast)) (But.same (Same.new (o := .tup [.str "end"]) np)))
      refine k _ _ nest.dropLast bw ?_ ?_
      · rw [List.map_dropLast]
        exact Same.new np _ _ upd_same
      · rw [hM, if_neg hne2]
        exact ⟨rfl, (by intro z; cases z), .tup (SqT.of upd_same) (.cons (.str _) .nil)⟩
    refine ifF3 (decide_eq_false h3) ?_
    have hM : readS kd ws nest = (stepS kd ws).map fun st => (st, nest) := by
      unfold readS
      rw [if_neg h1, if_neg h2, if_neg h3]
    refine ⟨rfl, _, rfl, _, rfl, a, ws, kd, rfl, hkd, sq2.seq ha, hok, hne, hlen, fun v G s3 res => ?_⟩
    rw [step_d] at res
    refine k _ _ nest (But.same (sq2.trans s3)) ((sq2.trans s3) _ _ hN) ?_
    rw [hM]
    cases o : stepS kd ws with
    | none => rw [o] at res; exact res
    | some st => rw [o] at res; exact ⟨rfl, res.1, res.2⟩
end
end K14

set_option Elab.async false
set_option linter.all false
set_option maxRecDepth 100000
set_option maxHeartbeats 8000000
/-! Outlines, d: a text read -/
namespace L2
open PySem PyProof.Rows
/-- a def with defaults that lets nothing out -/
theorem FunD.ok0 {P : Program} {w : World} {K : PySem.W.Frag} {mg : Str → Option Value} {base : Heap} {x qual : Str} {params : Arguments} {body : List Stmt} {scope : Scope} {dvs : List V} {kws : List (Str × V)} {f : Addr} {fd : FuncData} {N ps : List Str} {k : Nat} {sp : Sp}
    (F : FunD K x qual params body scope dvs kws f fd) (S : FnScope N ps scope) (len : ∀ vs H Q E, sp vs H Q E → vs.length = ps.length)
    (hbody : ∀ (cdv : Value) (A : Around) (outer : List Env) (s : Shared) (H : Hp) (vs : List V) (Q : VK) (E : XK), Room k (A.deeper (envOfC qual scope s.heap.objs.size f cdv)) → sp vs H Q E →
      ∃ t, PSs (cxOf CX0 P w K mg base N qual scope f cdv A outer s H E).nox body t ∧ t { nx := fun _ H' => Q .non H', rt := Q } (start N vs) H) : FnOk P w K mg base CX0 (k + 1) f fd ps sp :=
  F.ok S len fun cdv A outer s H vs Q E hr h => by
    obtain ⟨t, p, q⟩ := hbody cdv A outer s H vs Q E hr h
    exact ⟨t, p.nox, q⟩
end L2
namespace K14
open PySem L2
def readGo (kd : Str) : List Str → List St → List Str → Option (List St × List Str)
  | [], acc, nest => some (acc, nest)
  | r :: rs, acc, nest => match readS kd (Txt.split r " ") nest with
    | none => none
    | some (st, n2) => readGo kd rs (acc ++ [st]) n2
def isIf : St → Bool
  | .iff _ => true
  | _ => false
def RowOk (r : Str) : Prop := r.length + 2 ≤ sizeLine ∧ WsOk (Txt.split r " ") ∧ Txt.split r " " ≠ [] ∧ (Txt.split r " ").length ≤ 1000
def spOutl (K : PySem.W.Frag) (C fS fP : Addr) : Sp := fun vs H Q _ => ∃ (x kd : Str) (ml mi : Int) (rows : List Str) (sts : List St) (tg : List V), vs = [.str x, .str kd, .ref fS, .ref fP, .int ml, .int mi, .non] ∧ kd ∈ kindsL ∧ x.length + 2 ≤ sizeLine ∧ linesM x = rows ∧
  (rows.length : Int) ≤ ml ∧ rows.length ≤ 1000 ∧ (∀ r ∈ rows, RowOk r) ∧ readGo kd rows [] [] = some (sts, []) ∧ ((sts.countP isIf : Nat) : Int) ≤ mi ∧ tgM sts = some tg ∧
  ∀ (p : Addr) (xs : List V) (H' : Hp), Same H H' → OutAt K C H' p rows xs sts tg → Q (.ref p) H'
theorem readS_len {kd : Str} {ws nest n2 : List Str} {st : St} (h : readS kd ws nest = some (st, n2)) : n2.length ≤ nest.length + 1 := by
  unfold readS at h
  split at h
  · cases e : testM (hPartM kd) (ws.drop 1) with
    | none => rw [e] at h; cases h
    | some t => rw [e] at h; cases h; rw [List.length_append]; exact Nat.le_refl _
  split at h
  · split at h
    · cases h
    · cases h; rw [List.length_append, List.length_dropLast]; show nest.length - 1 + 1 ≤ _; omega
  split at h
  · split at h
    · cases h
    · cases h; rw [List.length_dropLast]; omega
  · cases e : stepS kd ws with
    | none => rw [e] at h; cases h
    | some s => rw [e] at h; cases h; omega
theorem But.fresh {p : Addr} {H G G' : Hp} (s : Same H G) (b : But p G G') (h : H p = none) : Same H G' := fun a u e => b a u (s a u e) fun z => by
  rw [z, h] at e
  cases e
theorem StsAt.snoc {K : PySem.W.Frag} {H : Hp} {v : V} {st : St} (h : TDp K H v st.d ∧ st.Ok) : ∀ {xs : List V} {sts : List St}, StsAt K H xs sts → StsAt K H (xs ++ [v]) (sts ++ [st])
  | _, _, .nil => .cons h .nil
  | _, _, .cons a r => .cons a (StsAt.snoc h r)
theorem isIf_sort {st : St} (h : st.Ok) : decide (V.str st.sort = V.str "if") = isIf st := by
  cases st with
  | fin x =>
    rcases h with e | e
    · subst e
      show decide (V.str ("quit" : Str) = V.str "if") = false
      decide +kernel
    · subst e
      show decide (V.str ("no" : Str) = V.str "if") = false
      decide +kernel
  | set n sm sg c =>
    exact decide_eq_false fun z => acts_ne h (by decide +kernel) (V.str.inj z)
  | iff t => exact decide_eq_true rfl
  | els =>
    show decide (V.str ("else" : Str) = V.str "if") = false
    decide +kernel
  | nd =>
    show decide (V.str ("end" : Str) = V.str "if") = false
    decide +kernel
theorem none_of {H G : Hp} {a : Addr} (s : Same H G) (h : G a = none) : H a = none := by
  cases e : H a with
  | none => rfl
  | some o => exact absurd (s _ _ e) (by rw [h]; intro z; cases z)
section
variable {P : Program} {w : World} {K : PySem.W.Frag} {mg : Str → Option Value} {base : Heap}
abbrev nmOutl : List Str := ["text", "kind", "step_in", "part_in", "most_lines", "most_ifs", "loop_in", "rows", "steps", "nest", "row", "step", "many_ifs"]
theorem scOutl : FnScope nmOutl ["text", "kind", "step_in", "part_in", "most_lines", "most_ifs", "loop_in"] (defScope sOutl) := ⟨rfl, rfl, rfl, by decide +kernel, rfl, by decide +kernel, by decide +kernel⟩
theorem ok_outl {f fL fR fS fP C fI : Addr} {fd fdL fdR fdI : FuncData} (F : FunD K "read_outline" "read_outline" (defArgs sOutl) (defBody sOutl) (defScope sOutl) [.non] [] f fd) (T : TxtN mg) (O : TxtO K mg C)
    (GL : FnOk P w K mg base CX0 1 fL fdL ["text"] spLines) (kL : PySem.W.keepIn K (.ref fL) = true) (bL : Binds K fdL ["text"] []) (gL : mg "lines_of" = some (.ref fL))
    (GR : FnOk P w K mg base CX0 6 fR fdR ["words", "kind", "step_in", "part_in", "loop_in", "nest"] (spRead K fS fP)) (kR : PySem.W.keepIn K (.ref fR) = true) (bR : Binds K fdR ["words", "kind", "step_in", "part_in", "loop_in", "nest"] []) (gR : mg "read_line" = some (.ref fR))
    (M : Mk K C fI) (GI : FnOk P w K mg base CX0 2 fI fdI ["self", "rows", "steps"] (spOI K C)) (bI : Binds K fdI ["self", "rows", "steps"] []) :
    FnOk P w K mg base CX0 7 f fd ["text", "kind", "step_in", "part_in", "most_lines", "most_ifs", "loop_in"] (spOutl K C fS fP) := by
  refine F.ok0 scOutl (fun vs H Q E h => ?_) (fun cdv A outer s H vs Q E hr h => ?_)
  · obtain ⟨x, kd, ml, mi, rows, sts, tg, rfl, _⟩ := h
    rfl
  · obtain ⟨x, kd, ml, mi, rows, sts, tg, rfl, hkd, hx, hrows, hml, hn, hok, hgo0, hmi, htg, k⟩ := h
    have hr1 : Room 1 _ := hr.mono (by decide)
    have hr3 : Room 3 _ := hr.mono (by decide)
    have hr6 : Room 6 _ := hr.mono (by decide)
    refine ⟨_, pss_cons (ps_set (i := 7) scOutl.nd rfl (.inl rfl) (pe_call GL hr1 rfl gL kL bL .nil pass0 (pa_cons (pv 0) pa_nil)))
      (pss_cons (ps_if (pt_cmpR op_gt (pe_callB call_len_seq (by rfl) T.len PySem.boot_len (pa_cons (pv 7) pa_nil)) (pv 4) (nomark _)) (pss_one PS.ghost) pss_nil)
      (pss_cons (ps_set (i := 8) scOutl.nd rfl (.inl rfl) (pe_lst pa_nil))
      (pss_cons (ps_set (i := 9) scOutl.nd rfl (.inl rfl) (pe_lst pa_nil))
      (pss_cons (ps_for PassesOwn.never rfl (pi_list (pv 7)) (pg_name (i := 10) scOutl.nd rfl (Or.inl rfl))
        (pss_cons (ps_set (i := 11) scOutl.nd rfl (.inl rfl) (pe_call GR hr6 rfl gR kR bR .nil pass0 (pa_cons (pe_split (pv 10) pe_str) (pa_cons (pv 1) (pa_cons (pv 2) (pa_cons (pv 3) (pa_cons (pv 6) (pa_cons (pv 9) pa_nil))))))))
        (pss_cons (ps_if (pt_cmpR op_isN (pv 11) pe_non (nomark _)) (pss_one PS.ghost) pss_nil)
        (pss_one (ps_expr (pe_bm PySem.F.plainAttrs_list PySem.F.slot_list_append PySem.F.type_list_append mt_append (pv 8) (pa_cons (pv 11) pa_nil)))))))
      (pss_cons (ps_if (pt_truth (pv 9) (by intro _; rfl)) (pss_one PS.ghost) pss_nil)
      (pss_cons (ps_set (i := 12) scOutl.nd rfl (.inl rfl) (pe_callB call_len_seq (by rfl) T.len PySem.boot_len (pa_cons
        (pe_lc (own := [("step", 11)]) (g := gName 11) rfl scOutl.nd (pi_list (pv 8)) (blkOk_by (own := [("step", 11)]) (N := nmOutl) (sc := defScope sOutl) (by decide +kernel)) (fun _ _ _ _ _ => pg_name (i := 11) scOutl.nd rfl (Or.inl rfl)) (fun _ _ _ _ _ => pts_one (pt_cmpR op_eq (pe_ix (show IxR _ (rIxT K) from ix_tup) (pv 11) pe_int (fun _ _ => rfl)) pe_str (nomark _))) (fun _ _ _ _ _ => pv 11)) pa_nil)))
      (pss_cons (ps_if (pt_cmpR op_gt (pv 12) (pv 5) (nomark _)) (pss_one PS.ghost) pss_nil)
      (pss_one (ps_ret (pe_make M GI hr3 (by rfl) O.mgC bI .nil pass0 (pa_cons (pv 7) (pa_cons (pv 8) pa_nil)))))))))))), ?_⟩
    refine ⟨_, rfl, x, rfl, hx, fun R0 H1 s1 hR => ?_⟩
    rw [hrows] at hR
    refine ⟨_, rfl, R0, _, rfl, .inl (SqL.of hR), _, rfl, _, _, rfl, rfl, _, rfl, ?_⟩
    refine ifF3 (decide_eq_false (by rw [List.length_map]; omega)) ?_
    refine ⟨(by show 0 ≤ sizeLine; decide), fun S0 nS => ?_⟩
    have s2 := s1.trans (Same.new (o := .lst []) nS)
    refine ⟨(by show 0 ≤ sizeLine; decide), fun N0 nN => ?_⟩
    have s3 := s2.trans (Same.new (o := .lst []) nN)
    have HS : H S0 = none := none_of s1 nS
    have HN : H N0 = none := none_of s2 nN
    have SN : S0 ≠ N0 := ne_of_none upd_same nN
    have RS : R0 ≠ S0 := ne_of_none hR nS
    have hR3 : (upd (upd H1 S0 (.lst [])) N0 (.lst [])) R0 = some (.lst (rows.map V.str)) := Same.new nN _ _ (Same.new nS _ _ hR)
    have RN : R0 ≠ N0 := ne_of_none (Same.new nS _ _ hR) nN
    refine ⟨_, rfl, R0, rfl, ⟨_, SqL.of hR3⟩, for_list (K := K) (a := R0) (xs := rows.map V.str) (fun i σ G => ∃ acc nest ys v9 v10, σ = [some (.str x), some (.str kd), some (.ref fS), some (.ref fP), some (.int ml), some (.int mi), some .non, some (.ref R0), some (.ref S0), some (.ref N0), v9, v10, none] ∧
      Same H G ∧ G R0 = some (.lst (rows.map V.str)) ∧ G S0 = some (.lst ys) ∧ G N0 = some (.lst (nest.map V.str)) ∧ StsAt K G ys acc ∧ acc.length = i ∧ nest.length ≤ i ∧ NoWh nest ∧ readGo kd (rows.drop i) acc nest = some (sts, []))
      ⟨[], [], [], none, none, rfl, s3, hR3, by rw [upd_ne SN]; exact upd_same, upd_same, .nil, rfl, Nat.le_refl _, NoWh.nil, hgo0⟩ (fun i σ G _ ⟨_, _, _, _, _, _, _, e, _⟩ => SqL.of e) ?_ ?_⟩
    · rintro i y σ G hi ⟨acc, nest, ys, v9, v10, rfl, hG, gR', gS, gN, hst, hacc, hnl, hnw, hgo⟩
      obtain ⟨r, hri, rfl⟩ : ∃ r, rows[i]? = some r ∧ y = V.str r := by
        rw [List.getElem?_map] at hi
        cases e : rows[i]? with
        | none => rw [e] at hi; cases hi
        | some x => rw [e] at hi; exact ⟨x, rfl, (Option.some.inj hi).symm⟩
      obtain ⟨q1, q2, q3, q4⟩ := hok r (List.mem_of_getElem? hri)
      have hil : i < rows.length := (List.getElem?_eq_some_iff.mp hri).1
      rw [drop_cons hri] at hgo
      have hyl : ys.length = i := by rw [← hacc]; exact Paired.length hst
      refine ⟨_, rfl, ⟨_, rfl⟩, r, _, rfl, rfl, rfl, q1, fun a na => ?_⟩
      have sa := Same.new (o := .lst ((Txt.split r " ").map V.str)) na
      refine ⟨_, rfl, _, rfl, _, rfl, _, rfl, _, rfl, a, N0, Txt.split r " ", nest, kd, rfl, hnw, hkd, SqL.of upd_same, q2, q3, q4, sa _ _ gN, by omega, fun v G2 nest' b2 g2 res => ?_⟩
      have bG : But N0 G G2 := But.trans (But.same sa) b2
      have hG2 : Same H G2 := But.fresh hG bG HN
      have gR2 := bG _ _ gR' RN
      have gS2 := bG _ _ gS SN
      refine ⟨_, rfl, rfl, _, rfl, ?_⟩
      cases o : readS kd (Txt.split r " ") nest with
      | none =>
        have hgo2 : (match readS kd (Txt.split r " ") nest with
          | none => none
          | some (st, n2) => readGo kd (rows.drop (i + 1)) (acc ++ [st]) n2) = some (sts, []) := hgo
        rw [o] at hgo2
        cases hgo2
      | some pr =>
      obtain ⟨st, n2⟩ := pr
      have hgo2 : (match readS kd (Txt.split r " ") nest with
          | none => none
          | some (st, n2) => readGo kd (rows.drop (i + 1)) (acc ++ [st]) n2) = some (sts, []) := hgo
      rw [o] at hgo2 res
      obtain ⟨e1, e2, e3⟩ := res
      subst e1
      refine ifF3 (decide_eq_false e2) ?_
      refine ⟨_, rfl, .inl ⟨rfl, _, SqL.of gS2⟩, _, rfl, S0, _, _, rfl, rfl, gS2, small1000 (by omega), ?_⟩
      refine ⟨acc ++ [st], nest', ys ++ [v], _, _, rfl, Same.write hG2 HS, by rw [upd_ne RS]; exact gR2, upd_same, by rw [upd_ne SN.symm]; exact g2, ?_, by rw [List.length_append, hacc]; rfl, ?_, read_noWh o hnw, hgo2⟩
      · exact StsAt.snoc ⟨e3.keep (Tk.write gS2), read_ok o⟩ ((hst.keep (bG.tk gN)).keep (Tk.write gS2))
      · have := readS_len o
        omega
    · rintro σ G ⟨acc, nest, ys, v9, v10, rfl, hG, gR', gS, gN, hst, hacc, hnl, hnw, hgo⟩
      rw [List.drop_of_length_le (by rw [List.length_map]; exact Nat.le_refl _)] at hgo
      have e : (acc, nest) = (sts, []) := Option.some.inj hgo
      cases e
      have hyl : ys.length = sts.length := Paired.length hst
      have hsl : sts.length = rows.length := by rw [hacc, List.length_map]
      refine ⟨_, rfl, false, .inl ⟨_, SqL.of gN, rfl⟩, ?_⟩
      refine iteF ?_
      refine ⟨_, rfl, S0, rfl, ⟨_, SqL.of gS⟩, fun D nD => ?_⟩
      have sD := Same.new (o := .lst []) nD
      refine lc_list (K := K) (a := S0) (xs := ys) (fun i G2 => ∃ zs, Same G G2 ∧ G2 D = some (.lst zs) ∧ zs.length = (sts.take i).countP isIf) ⟨[], sD, upd_same, rfl⟩ (fun i G2 _ ⟨_, e, _⟩ => SqL.of (e _ _ gS)) ?_ ?_
      · rintro i y G2 hi ⟨zs, s4, hD, hz⟩
        obtain ⟨st, est, hv, hk⟩ := Paired.get hst hi
        obtain ⟨b, rest, rfl, hb⟩ := St.head (hv.keep (Same.tk s4))
        have ht : (sts.take (i + 1)).countP isIf = (sts.take i).countP isIf + (if isIf st = true then 1 else 0) := by
          rw [take_more est, List.countP_append, List.countP_singleton]
        have hle : (sts.take i).countP isIf ≤ 1000 := Nat.le_trans List.countP_le_length (by rw [List.length_take]; omega)
        refine ⟨rfl, ?_⟩
        refine ⟨_, rfl, b, _, 0, _, rfl, rfl, hb, atI_nat (j := 0) rfl, rfl, _, rfl, ?_⟩
        rw [isIf_sort hk]
        cases hif : isIf st with
        | true =>
          rw [hif, if_pos rfl] at ht
          refine iteT ?_
          refine ⟨_, rfl, zs, hD, small1000 (by omega), zs ++ [.ref b], ?_, upd_same, by rw [ht, List.length_append, hz]; rfl⟩
          exact Same.write s4 nD
        | false =>
          rw [hif, if_neg Bool.false_ne_true] at ht
          refine iteF ?_
          exact ⟨zs, s4, hD, by rw [ht, hz]; rfl⟩
      · rintro G2 ⟨zs, s4, hD, hz⟩
        rw [hyl, List.take_length] at hz
        refine ⟨D, _, rfl, .inl (SqL.of hD), ?_⟩
        refine ⟨_, rfl, _, rfl, _, _, rfl, rfl, _, rfl, ?_⟩
        refine ifF3 (decide_eq_false (by omega)) ?_
        refine ⟨_, rfl, _, rfl, fun p dx np ndx ne => ?_⟩
        have s5 := (hG.trans s4).trans ((Same.new (o := .own p) ndx).trans (Same.new (o := .ins C dx []) (by rw [upd_ne ne.symm]; exact np)))
        have s6 := s4.trans ((Same.new (o := .own p) ndx).trans (Same.new (o := .ins C dx []) (by rw [upd_ne ne.symm]; exact np)))
        refine ⟨p, dx, R0, S0, rows, ys, sts, tg, rfl, upd_same, SqL.of (s6 _ _ gR'), SqL.of (s6 _ _ gS), hst.keep (Same.tk s6), by omega, htg, fun G3 b3 hO => ⟨rfl, ?_⟩⟩
        exact k p ys G3 (But.fresh s5 b3 (none_of (hG.trans s4) np)) hO
end
end K14

set_option Elab.async false
set_option linter.all false
set_option maxRecDepth 100000
set_option maxHeartbeats 8000000
/-! Outlines, e: the ways -/
namespace K14
open PySem L2
def enders : List Str := ["quit", "no", "tell", "none"]
structure TxtW (K : PySem.W.Frag) (mg : Str → Option Value) : Prop where
  en : ∃ c, mg "ENDERS" = some (.ref c) ∧ ∀ H, SqT K H c (enders.map V.str)
/-- R l: what comes behind the place l (from 0 on) on each way, the numbers of the lines -/
structure RunEq (sts : List St) (tg : List V) (R : Nat → List (List Nat)) : Prop where
  out : ∀ l, sts.length ≤ l → R l = [[]]
  els : ∀ l, sts[l]? = some .els → ∃ t : Nat, tg[l]? = some (.int ((t + 1 : Nat) : Int)) ∧ l < t ∧ t ≤ sts.length ∧ R l = R t
  fin : ∀ l x, sts[l]? = some (.fin x) → R l = [[l + 1]]
  nd : ∀ l, sts[l]? = some .nd → R l = R (l + 1)
  set : ∀ l n sm sg k, sts[l]? = some (.set n sm sg k) → R l = (R (l + 1)).map ((l + 1) :: ·)
  iff : ∀ l c, sts[l]? = some (.iff c) → ∃ t : Nat, tg[l]? = some (.int ((t + 1 : Nat) : Int)) ∧ l < t ∧ t ≤ sts.length ∧ R l = (R (l + 1)).map ((l + 1) :: ·) ++ (R t).map ((l + 1) :: ·)
def intsV (w : List Nat) : List V := w.map fun n => .int (n : Nat)
/-- what waits: the pair's place, the list's place, the place of the line, the way so far -/
structure Wt where
  t : Addr
  a : Addr
  l : Nat
  w : List Nat
def WtAt (G : Hp) (e : Wt) : Prop := G e.t = some (.tup [.int ((e.l + 1 : Nat) : Int), .ref e.a]) ∧ G e.a = some (.lst (intsV e.w))
def WaysAt (G : Hp) : List Addr → List (List Nat) → Prop := Paired fun a w => G a = some (.lst (intsV w))
def spWays (K : PySem.W.Frag) (C : Addr) : Sp := fun vs H Q _ => ∃ (p : Addr) (rows : List Str) (xs : List V) (sts : List St) (tg : List V) (R : Nat → List (List Nat)), vs = [.ref p] ∧ OutAt K C H p rows xs sts tg ∧ sts.length ≤ 900 ∧ RunEq sts tg R ∧ (R 0).length ≤ 900 ∧
  ∀ (W : Addr) (as : List Addr) (ws : List (List Nat)) (H' : Hp), Same H H' → H' W = some (.lst (as.map V.ref)) → WaysAt H' as ws → (∀ w, w ∈ ws ↔ w ∈ R 0) → ws.length = (R 0).length → Q (.ref W) H'
/-- the state between two lines of ways_through -/
structure WS (H G : Hp) (W0 Q0 : Addr) (n : Nat) (as : List Addr) (ws : List (List Nat)) (es : List Wt) (cur : List Addr) : Prop where
  same : Same H G
  gW : G W0 = some (.lst (as.map V.ref))
  gQ : G Q0 = some (.lst (es.map fun e => V.ref e.t))
  wa : WaysAt G as ws
  ent : ∀ e ∈ es, WtAt G e ∧ e.l ≤ n ∧ e.w.length ≤ e.l
  nd : (cur ++ (as ++ es.map (·.a))).Nodup
  fr : ∀ b ∈ cur ++ (as ++ es.map (·.a)), b ≠ W0 ∧ b ≠ Q0 ∧ H b = none
  hW : H W0 = none
  hQ : H Q0 = none
  WQ : W0 ≠ Q0
theorem WaysAt.keep {G G' : Hp} : ∀ {as : List Addr} {ws : List (List Nat)}, (∀ a ∈ as, ∀ o, G a = some o → G' a = some o) → WaysAt G as ws → WaysAt G' as ws
  | _, _, _, .nil => .nil
  | _, _, h, .cons e r => .cons (h _ (List.mem_cons_self ..) _ e) (WaysAt.keep (fun a ha => h a (List.mem_cons_of_mem _ ha)) r)
theorem WaysAt.snoc {G : Hp} {a : Addr} {w : List Nat} (h : G a = some (.lst (intsV w))) : ∀ {as : List Addr} {ws : List (List Nat)}, WaysAt G as ws → WaysAt G (as ++ [a]) (ws ++ [w])
  | _, _, .nil => .cons h .nil
  | _, _, .cons e r => .cons e (WaysAt.snoc h r)
section
variable {H G : Hp} {W0 Q0 : Addr} {n : Nat} {as : List Addr} {ws : List (List Nat)} {es : List Wt} {cur : List Addr}
theorem WS.new (S : WS H G W0 Q0 n as ws es cur) {G' : Hp} (s : Same G G') : WS H G' W0 Q0 n as ws es cur :=
  ⟨S.same.trans s, s _ _ S.gW, s _ _ S.gQ, S.wa.keep fun a _ o e => s a o e, fun e he => ⟨⟨s _ _ (S.ent e he).1.1, s _ _ (S.ent e he).1.2⟩, (S.ent e he).2⟩, S.nd, S.fr, S.hW, S.hQ, S.WQ⟩
theorem WS.pop {e : Wt} (S : WS H G W0 Q0 n as ws (es ++ [e]) []) : WS H (upd G Q0 (.lst (es.map fun e => V.ref e.t))) W0 Q0 n as ws es [e.a] ∧ (upd G Q0 (.lst (es.map fun e => V.ref e.t))) e.a = some (.lst (intsV e.w)) ∧
    (upd G Q0 (.lst (es.map fun e => V.ref e.t))) e.t = some (.tup [.int ((e.l + 1 : Nat) : Int), .ref e.a]) ∧ e.l ≤ n ∧ e.w.length ≤ e.l := by
  obtain ⟨⟨h1, h2⟩, h3, h4⟩ := S.ent e (by simp)
  have f : ∀ b ∈ as ++ es.map (·.a), b ≠ W0 ∧ b ≠ Q0 ∧ H b = none := fun b hb => S.fr b (by
    rw [List.nil_append, List.map_append]
    rcases List.mem_append.mp hb with z | z
    · exact List.mem_append_left _ z
    · exact List.mem_append_right _ (List.mem_append_left _ z))
  have fe : e.a ≠ W0 ∧ e.a ≠ Q0 ∧ H e.a = none := S.fr e.a (by simp)
  have nt : e.t ≠ Q0 := ne_of h1 S.gQ (by intro z; cases z)
  refine ⟨⟨Same.write S.same S.hQ, by rw [upd_ne S.WQ]; exact S.gW, upd_same, S.wa.keep fun a ha o h => by rw [upd_ne (f a (List.mem_append_left _ ha)).2.1]; exact h, fun x hx => ?_, ?_, ?_, S.hW, S.hQ, S.WQ⟩, by rw [upd_ne fe.2.1]; exact h2, by rw [upd_ne nt]; exact h1, h3, h4⟩
  · obtain ⟨⟨k1, k2⟩, k3⟩ := S.ent x (List.mem_append_left _ hx)
    refine ⟨⟨?_, ?_⟩, k3⟩
    · rw [upd_ne (ne_of k1 S.gQ (by intro z; cases z))]
      exact k1
    · rw [upd_ne (f x.a (List.mem_append_right _ (List.mem_map.mpr ⟨x, hx, rfl⟩))).2.1]
      exact k2
  · have nd := S.nd
    rw [List.nil_append, List.map_append, ← List.append_assoc] at nd
    have nd2 := List.nodup_append.mp nd
    rw [List.singleton_append, List.nodup_cons]
    exact ⟨fun z => nd2.2.2 _ z _ (by simp) rfl, nd2.1⟩
  · intro b hb
    rcases List.mem_append.mp hb with z | z
    · rw [List.mem_singleton.mp z]
      exact fe
    · exact f b z
theorem WS.grow {a : Addr} {w : List Nat} {o : HO} (S : WS H G W0 Q0 n as ws es [a]) (ga : G a = some (.lst (intsV w))) : WS H (upd G a o) W0 Q0 n as ws es [a] := by
  have fa := S.fr a (by simp)
  have nd := S.nd
  rw [List.singleton_append, List.nodup_cons] at nd
  refine ⟨Same.write S.same fa.2.2, by rw [upd_ne fa.1.symm]; exact S.gW, by rw [upd_ne fa.2.1.symm]; exact S.gQ, S.wa.keep fun b hb o h => by rw [upd_ne (fun z => nd.1 (by rw [← z]; exact List.mem_append_left _ hb))]; exact h, fun x hx => ?_, S.nd, S.fr, S.hW, S.hQ, S.WQ⟩
  obtain ⟨⟨k1, k2⟩, k3⟩ := S.ent x hx
  refine ⟨⟨?_, ?_⟩, k3⟩
  · rw [upd_ne (ne_of k1 ga (by intro z; cases z))]
    exact k1
  · rw [upd_ne (fun z => nd.1 (by rw [← z]; exact List.mem_append_right _ (List.mem_map.mpr ⟨x, hx, rfl⟩)))]
    exact k2
theorem WS.push {a : Addr} {e : Wt} (S : WS H G W0 Q0 n as ws es [a]) (he : WtAt G e) (h1 : e.l ≤ n) (h2 : e.w.length ≤ e.l) (hf : e.a ∉ a :: (as ++ es.map (·.a))) (hn : e.a ≠ W0 ∧ e.a ≠ Q0 ∧ H e.a = none) :
    WS H (upd G Q0 (.lst (es.map (fun e => V.ref e.t) ++ [.ref e.t]))) W0 Q0 n as ws (es ++ [e]) [a] := by
  have f : ∀ b ∈ as ++ es.map (·.a), b ≠ W0 ∧ b ≠ Q0 ∧ H b = none := fun b hb => S.fr b (List.mem_append_right _ hb)
  refine ⟨Same.write S.same S.hQ, by rw [upd_ne S.WQ]; exact S.gW, by rw [List.map_append]; exact upd_same, S.wa.keep fun b hb o h => by rw [upd_ne (f b (List.mem_append_left _ hb)).2.1]; exact h, fun x hx => ?_, ?_, ?_, S.hW, S.hQ, S.WQ⟩
  · rcases List.mem_append.mp hx with z | z
    · obtain ⟨⟨k1, k2⟩, k3⟩ := S.ent x z
      refine ⟨⟨?_, ?_⟩, k3⟩
      · rw [upd_ne (ne_of k1 S.gQ (by intro z; cases z))]
        exact k1
      · rw [upd_ne (f x.a (List.mem_append_right _ (List.mem_map.mpr ⟨x, z, rfl⟩))).2.1]
        exact k2
    · rw [List.mem_singleton.mp z]
      refine ⟨⟨?_, ?_⟩, h1, h2⟩
      · rw [upd_ne (ne_of he.1 S.gQ (by intro z; cases z))]
        exact he.1
      · rw [upd_ne hn.2.1]
        exact he.2
  · have nd := S.nd
    rw [List.map_append, ← List.append_assoc as, ← List.append_assoc [a]]
    refine List.nodup_append.mpr ⟨nd, by simp, fun x hx y hy z => ?_⟩
    rw [z, List.mem_singleton.mp hy] at hx
    exact hf hx
  · intro b hb
    rw [List.map_append, ← List.append_assoc as, ← List.append_assoc [a]] at hb
    rcases List.mem_append.mp hb with z | z
    · exact S.fr b z
    · rw [List.mem_singleton.mp z]
      exact hn
theorem WS.tell {a : Addr} {w : List Nat} (S : WS H G W0 Q0 n as ws es [a]) (ga : G a = some (.lst (intsV w))) : WS H (upd G W0 (.lst (as.map V.ref ++ [.ref a]))) W0 Q0 n (as ++ [a]) (ws ++ [w]) es [] := by
  have fa := S.fr a (by simp)
  have f : ∀ b ∈ as ++ es.map (·.a), b ≠ W0 ∧ b ≠ Q0 ∧ H b = none := fun b hb => S.fr b (List.mem_append_right _ hb)
  refine ⟨Same.write S.same S.hW, by rw [List.map_append]; exact upd_same, by rw [upd_ne S.WQ.symm]; exact S.gQ, WaysAt.snoc (by rw [upd_ne fa.1]; exact ga) (S.wa.keep fun b hb o h => by rw [upd_ne (f b (List.mem_append_left _ hb)).1]; exact h), fun x hx => ?_, ?_, ?_, S.hW, S.hQ, S.WQ⟩
  · obtain ⟨⟨k1, k2⟩, k3⟩ := S.ent x hx
    refine ⟨⟨?_, ?_⟩, k3⟩
    · rw [upd_ne (ne_of k1 S.gW (by intro z; cases z))]
      exact k1
    · rw [upd_ne (f x.a (List.mem_append_right _ (List.mem_map.mpr ⟨x, hx, rfl⟩))).1]
      exact k2
  · have nd := S.nd
    rw [List.singleton_append, List.nodup_cons] at nd
    have nd2 := List.nodup_append.mp nd.2
    rw [List.nil_append, List.append_assoc]
    refine List.nodup_append.mpr ⟨nd2.1, ?_, fun x hx y hy z => ?_⟩
    · rw [List.singleton_append, List.nodup_cons]
      exact ⟨fun z => nd.1 (List.mem_append_right _ z), nd2.2.1⟩
    · rw [List.singleton_append] at hy
      rcases List.mem_cons.mp hy with e | e
      · rw [z, e] at hx
        exact nd.1 (List.mem_append_left _ hx)
      · exact nd2.2.2 x hx y e z
  · intro b hb
    rw [List.nil_append, List.append_assoc] at hb
    rcases List.mem_append.mp hb with z | z
    · exact f b (List.mem_append_left _ z)
    · rw [List.singleton_append] at z
      rcases List.mem_cons.mp z with e | e
      · rw [e]
        exact fa
      · exact f b (List.mem_append_right _ e)
end
def wSum (R : Nat → List (List Nat)) (es : List Wt) : Nat := (es.map fun e => (R e.l).length).sum
/-- the ways told, those that wait, those of the one under way -/
structure WM (R : Nat → List (List Nat)) (ws : List (List Nat)) (es : List Wt) (cur : List (List Nat)) : Prop where
  set : ∀ r, (r ∈ ws ∨ (∃ e ∈ es, ∃ q ∈ R e.l, r = e.w ++ q) ∨ r ∈ cur) ↔ r ∈ R 0
  cnt : ws.length + wSum R es + cur.length = (R 0).length
section
variable {R : Nat → List (List Nat)} {ws : List (List Nat)} {es : List Wt} {cur : List (List Nat)}
theorem wSum_snoc (e : Wt) : wSum R (es ++ [e]) = wSum R es + (R e.l).length := by
  unfold wSum
  rw [List.map_append, List.sum_append]
  rfl
theorem WM.pop {e : Wt} (M : WM R ws (es ++ [e]) []) : WM R ws es ((R e.l).map (e.w ++ ·)) := by
  refine ⟨fun r => ?_, ?_⟩
  · rw [← M.set r]
    constructor
    · rintro (h | ⟨x, hx, q, hq, e⟩ | h)
      · exact .inl h
      · exact .inr (.inl ⟨x, List.mem_append_left _ hx, q, hq, e⟩)
      · obtain ⟨q, hq, e⟩ := List.mem_map.mp h
        exact .inr (.inl ⟨_, List.mem_append_right _ (List.mem_singleton.mpr rfl), q, hq, e.symm⟩)
    · rintro (h | ⟨x, hx, q, hq, e⟩ | h)
      · exact .inl h
      · rcases List.mem_append.mp hx with z | z
        · exact .inr (.inl ⟨x, z, q, hq, e⟩)
        · rw [List.mem_singleton.mp z] at hq e
          exact .inr (.inr (List.mem_map.mpr ⟨q, hq, e.symm⟩))
      · cases h
  · have c := M.cnt
    rw [wSum_snoc] at c
    rw [List.length_map]
    have z : ([] : List (List Nat)).length = 0 := rfl
    omega
theorem WM.tell {wf : List Nat} (M : WM R ws es [wf]) : WM R (ws ++ [wf]) es [] := by
  refine ⟨fun r => ?_, ?_⟩
  · rw [← M.set r]
    constructor
    · rintro (h | h | h)
      · rcases List.mem_append.mp h with z | z
        · exact .inl z
        · exact .inr (.inr z)
      · exact .inr (.inl h)
      · cases h
    · rintro (h | h | h)
      · exact .inl (List.mem_append_left _ h)
      · exact .inr (.inl h)
      · exact .inl (List.mem_append_right _ h)
  · have c := M.cnt
    rw [List.length_append]
    have z : ([] : List (List Nat)).length = 0 := rfl
    have z1 : [wf].length = 1 := rfl
    omega
theorem WM.push {A : List (List Nat)} {e : Wt} (M : WM R ws es (A ++ (R e.l).map (e.w ++ ·))) : WM R ws (es ++ [e]) A := by
  refine ⟨fun r => ?_, ?_⟩
  · rw [← M.set r]
    constructor
    · rintro (h | ⟨x, hx, q, hq, e⟩ | h)
      · exact .inl h
      · rcases List.mem_append.mp hx with z | z
        · exact .inr (.inl ⟨x, z, q, hq, e⟩)
        · rw [List.mem_singleton.mp z] at hq e
          exact .inr (.inr (List.mem_append_right _ (List.mem_map.mpr ⟨q, hq, e.symm⟩)))
      · exact .inr (.inr (List.mem_append_left _ h))
    · rintro (h | ⟨x, hx, q, hq, e⟩ | h)
      · exact .inl h
      · exact .inr (.inl ⟨x, List.mem_append_left _ hx, q, hq, e⟩)
      · rcases List.mem_append.mp h with z | z
        · exact .inr (.inr z)
        · obtain ⟨q, hq, e⟩ := List.mem_map.mp z
          exact .inr (.inl ⟨_, List.mem_append_right _ (List.mem_singleton.mpr rfl), q, hq, e.symm⟩)
  · have c := M.cnt
    rw [List.length_append, List.length_map] at c
    rw [wSum_snoc]
    omega
end
theorem RunEq.pos {sts : List St} {tg : List V} {R : Nat → List (List Nat)} (h : RunEq sts tg R) (hok : ∀ l, l < sts.length → ∃ st, sts[l]? = some st) : ∀ (m l : Nat), sts.length - l ≤ m → l ≤ sts.length → 0 < (R l).length
  | m, l, hm, hl => by
    by_cases e : l < sts.length
    case neg =>
      rw [h.out l (by omega)]
      decide
    obtain ⟨st, hs⟩ := hok l e
    cases m with
    | zero => omega
    | succ m =>
    cases st with
    | fin x => rw [h.fin l x hs]; exact Nat.zero_lt_one
    | nd => rw [h.nd l hs]; exact RunEq.pos h hok m (l + 1) (by omega) (by omega)
    | set n sm sg k => rw [h.set l _ _ _ _ hs, List.length_map]; exact RunEq.pos h hok m (l + 1) (by omega) (by omega)
    | els =>
      obtain ⟨t, _, h1, h2, h3⟩ := h.els l hs
      rw [h3]
      exact RunEq.pos h hok m t (by omega) h2
    | iff c =>
      obtain ⟨t, _, h1, h2, h3⟩ := h.iff l c hs
      rw [h3, List.length_append, List.length_map]
      have := RunEq.pos h hok m (l + 1) (by omega) (by omega)
      omega
theorem len_sum {R : Nat → List (List Nat)} : ∀ {es : List Wt}, (∀ e ∈ es, 0 < (R e.l).length) → es.length ≤ wSum R es
  | [], _ => Nat.le_refl _
  | e :: es, h => by
    have a := h e (List.mem_cons_self ..)
    have b := len_sum (es := es) fun x hx => h x (List.mem_cons_of_mem _ hx)
    have c : wSum R (e :: es) = (R e.l).length + wSum R es := by
      unfold wSum
      rw [List.map_cons, List.sum_cons]
    rw [c, List.length_cons]
    omega
theorem WM.lenE {sts : List St} {tg : List V} {R : Nat → List (List Nat)} {ws : List (List Nat)} {es : List Wt} {cur : List (List Nat)} (h : RunEq sts tg R) (hl : (R 0).length ≤ 900) (M : WM R ws es cur) (he : ∀ e ∈ es, e.l ≤ sts.length) : es.length ≤ 900 := by
  have a := len_sum (R := R) (es := es) fun e hx => RunEq.pos h (fun l hl => ⟨_, List.getElem?_eq_getElem hl⟩) _ e.l (Nat.le_refl _) (he e hx)
  have b := M.cnt
  omega
theorem WaysAt.there {G : Hp} {a : Addr} : ∀ {as : List Addr} {ws : List (List Nat)}, WaysAt G as ws → a ∈ as → ∃ o, G a = some o
  | _, _, .nil, z => nomatch z
  | _, _, .cons h t, z => by
    rcases List.mem_cons.mp z with e | e
    · exact ⟨_, by rw [e]; exact h⟩
    · exact WaysAt.there t e
theorem map_cons_app (w : List Nat) (x : Nat) (A : List (List Nat)) : (A.map (x :: ·)).map (w ++ ·) = A.map ((w ++ [x]) ++ ·) := by
  rw [List.map_map]
  refine List.map_congr_left fun q _ => ?_
  show w ++ x :: q = (w ++ [x]) ++ q
  rw [List.append_assoc]
  rfl
def wBody : Stmt → List Stmt
  | .While _ b _ _ => b
  | _ => []
def passS : Stmt := .Pass ⟨0, 0, 0, 0⟩
section
variable {P : Program} {w : World} {K : PySem.W.Frag} {mg : Str → Option Value} {base : Heap}
abbrev nmWays : List Str := ["outline", "ways", "waiting", "line", "way", "sort"]
theorem scWays : FnScope nmWays ["outline"] (defScope sWays) := ⟨rfl, rfl, rfl, by decide +kernel, rfl, by decide +kernel, by decide +kernel⟩
theorem ok_ways {f C fM fS fT : Addr} {fd fdM fdS fdT : FuncData} (F : Fun K "ways_through" "ways_through" sWays f fd) (T : TxtN mg) (O : TxtO K mg C) (U : TxtW K mg)
    (GM : FnOk P w K mg base CX0 1 fM fdM ["self"] (spMany K C)) (mM : Meth K C "many_lines" fM) (bM : Binds K fdM ["self"] [])
    (GS : FnOk P w K mg base CX0 1 fS fdS ["self", "line"] (spStepAt K C)) (mS : Meth K C "step_at" fS) (bS : Binds K fdS ["self", "line"] [])
    (GT : FnOk P w K mg base CX0 1 fT fdT ["self", "line"] (spTargetAt K C)) (mT : Meth K C "target_at" fT) (bT : Binds K fdT ["self", "line"] []) :
    FnOk P w K mg base CX0 2 f fd ["outline"] (spWays K C) := by
  obtain ⟨ce, hce, hCE⟩ := U.en
  refine F.ok scWays (fun vs H Q E h => ?_) (fun cdv A outer s H vs Q E hr h => ?_)
  · obtain ⟨p, rows, xs, sts, tg, R, rfl, _⟩ := h
    rfl
  · obtain ⟨p, rows, xs, sts, tg, R, rfl, hO, hn, hR, hRl, k⟩ := h
    have hr1 : Room 1 _ := hr.mono (by decide)
    have hxl : xs.length = sts.length := Paired.length hO.st
    -- ways.append(way)
    obtain ⟨tA, pA, rA⟩ : ∃ tA, PSs (cxOf CX0 P w K mg base nmWays "ways_through" (defScope sWays) f cdv A outer s H E).nox ((wBody ((defBody sWays).getD 2 passS)).drop 2) tA ∧
        ∀ (D : Ends) (G : Hp) (W0 Q0 a : Addr) (as : List Addr) (ws : List (List Nat)) (es : List Wt) (wf : List Nat) (v3 v5 : Option V), WS H G W0 Q0 sts.length as ws es [a] → G a = some (.lst (intsV wf)) → WM R ws es [wf] →
          (∀ G', WS H G' W0 Q0 sts.length (as ++ [a]) (ws ++ [wf]) es [] → WM R (ws ++ [wf]) es [] → D.nx [some (.ref p), some (.ref W0), some (.ref Q0), v3, some (.ref a), v5] G') → tA D [some (.ref p), some (.ref W0), some (.ref Q0), v3, some (.ref a), v5] G := by
      refine ⟨_, pss_one (ps_expr (pe_bm PySem.F.plainAttrs_list PySem.F.slot_list_append PySem.F.type_list_append mt_append (pv 1) (pa_cons (pv 4) pa_nil))), ?_⟩
      intro D G W0 Q0 a as ws es wf v3 v5 S ga M hd
      have hc := M.cnt
      have hal : as.length = ws.length := Paired.length S.wa
      refine ⟨_, rfl, .inl ⟨rfl, _, SqL.of S.gW⟩, _, rfl, W0, _, _, rfl, rfl, S.gW, small1000 (by rw [List.length_map]; omega), ?_⟩
      exact hd _ (S.tell ga) M.tell
    -- the inner loop
    obtain ⟨tB, pB, rB⟩ : ∃ tB, PSs (cxOf CX0 P w K mg base nmWays "ways_through" (defScope sWays) f cdv A outer s H E).nox ((wBody ((defBody sWays).getD 2 passS)).drop 1) tB ∧
        ∀ (D : Ends) (G : Hp) (W0 Q0 a : Addr) (as : List Addr) (ws : List (List Nat)) (es : List Wt) (l : Nat) (wy : List Nat) (v5 : Option V), WS H G W0 Q0 sts.length as ws es [a] → G a = some (.lst (intsV wy)) → l ≤ sts.length → wy.length ≤ l → WM R ws es ((R l).map (wy ++ ·)) →
          (∀ es wf v3 v5 G', WS H G' W0 Q0 sts.length (as ++ [a]) (ws ++ [wf]) es [] → WM R (ws ++ [wf]) es [] → D.nx [some (.ref p), some (.ref W0), some (.ref Q0), v3, some (.ref a), v5] G') → tB D [some (.ref p), some (.ref W0), some (.ref Q0), some (.int ((l + 1 : Nat) : Int)), some (.ref a), v5] G := by
      refine ⟨_, pss_cons (ps_while PassesOwn.never (pt_cmpR op_le (pv 3) (pe_meth0 (pv 0) O.cl mM GM hr1 bM .nil pass0) (nomark _))
          (pss_cons (ps_set (i := 5) scWays.nd rfl (.inl rfl) (pe_ix ix_tup (pe_meth (pv 0) O.cl mS GS hr1 bS .nil pass0 (pa_cons (pv 3) pa_nil)) pe_int (fun _ _ => rfl)))
          (pss_cons (ps_if (pt_cmpR op_eq (pv 5) pe_str (nomark _))
            (pss_cons (ps_set (i := 3) scWays.nd rfl (.inl rfl) (pe_meth (pv 0) O.cl mT GT hr1 bT .nil pass0 (pa_cons (pv 3) pa_nil)))
            (pss_one ps_continue)) pss_nil)
          (pss_cons (ps_if (pt_cmpR op_ne (pv 5) pe_str (nomark _))
            (pss_one (ps_expr (pe_bm PySem.F.plainAttrs_list PySem.F.slot_list_append PySem.F.type_list_append mt_append (pv 4) (pa_cons (pv 3) pa_nil)))) pss_nil)
          (pss_cons (ps_if (pt_cmpR op_in_seq (pv 5) (pe_glob (v := .ref ce) (by rfl) hce rfl) (by rfl)) (pss_one ps_break) pss_nil)
          (pss_cons (ps_if (pt_cmpR op_eq (pv 5) pe_str (nomark _))
            (pss_one (ps_expr (pe_bm PySem.F.plainAttrs_list PySem.F.slot_list_append PySem.F.type_list_append mt_append (pv 2) (pa_cons (pe_tup (pa_cons (pe_meth (pv 0) O.cl mT GT hr1 bT .nil pass0 (pa_cons (pv 3) pa_nil)) (pa_cons (pe_callTy call_list_of (by rfl) T.list (by decide +kernel) (pa_cons (pv 4) pa_nil)) pa_nil))) pa_nil)))) pss_nil)
          (pss_one (ps_aug (i := 3) scWays.nd rfl (.inl rfl) pe_int ip_add)))))))) pA, ?_⟩
      intro D G W0 Q0 a as ws es l wy v5 S ga hl hwl M hd
      refine ⟨fun m σ G => ∃ (es : List Wt) (l : Nat) (wy : List Nat) (v5 : Option V), σ = [some (.ref p), some (.ref W0), some (.ref Q0), some (.int ((l + 1 : Nat) : Int)), some (.ref a), v5] ∧ WS H G W0 Q0 sts.length as ws es [a] ∧ G a = some (.lst (intsV wy)) ∧ l ≤ sts.length ∧ wy.length ≤ l ∧ WM R ws es ((R l).map (wy ++ ·)) ∧ m = sts.length + 1 - l,
        ⟨_, es, l, wy, v5, rfl, S, ga, hl, hwl, M, rfl⟩, ?_⟩
      rintro m σ G ⟨es, l, wy, v5, rfl, S, ga, hl, hwl, M, rfl⟩
      have hOG := hO.keep S.same
      obtain ⟨⟨dx, r1, r2, r3, eO, _, _, _⟩, _⟩ := id hOG
      have no1 : (oFl r1 r2 r3).lookup ("many_lines" : Str) = none := oFl_no _ _ _ (by decide +kernel) (by decide +kernel) (by decide +kernel)
      have no2 : (oFl r1 r2 r3).lookup ("step_at" : Str) = none := oFl_no _ _ _ (by decide +kernel) (by decide +kernel) (by decide +kernel)
      refine ⟨_, rfl, _, rfl, p, dx, _, rfl, eO, no1, p, rows, xs, sts, tg, rfl, hOG, _, _, rfl, rfl, _, rfl, ?_⟩
      by_cases hln : l < sts.length
      case neg =>
        have e : l = sts.length := by omega
        subst e
        rw [hR.out _ (Nat.le_refl _), List.map_singleton, List.append_nil] at M
        refine ifF3 (decide_eq_false (by omega)) ?_
        exact rA _ _ _ _ _ _ _ _ _ _ _ S ga M (hd _ _ _ _)
      refine ifT3 (decide_eq_true (by omega)) ?_
      refine ⟨fun σ' G' => ∃ m', m' < sts.length + 1 - l ∧ ∃ (es : List Wt) (l : Nat) (wy : List Nat) (v5 : Option V), σ' = [some (.ref p), some (.ref W0), some (.ref Q0), some (.int ((l + 1 : Nat) : Int)), some (.ref a), v5] ∧ WS H G' W0 Q0 sts.length as ws es [a] ∧ G' a = some (.lst (intsV wy)) ∧ l ≤ sts.length ∧ wy.length ≤ l ∧ WM R ws es ((R l).map (wy ++ ·)) ∧ m' = sts.length + 1 - l,
        fun σ' G' z => z, ?_⟩
      obtain ⟨v, hv⟩ : ∃ v, xs[l]? = some v := ⟨_, List.getElem?_eq_getElem (by omega)⟩
      obtain ⟨st, est, hvt, hok⟩ := Paired.get hOG.st hv
      obtain ⟨b, rest, rfl, hb⟩ := St.head hvt
      refine ⟨_, rfl, p, dx, _, rfl, eO, no2, _, rfl, p, rows, xs, sts, tg, l, _, rfl, hOG, hv, b, _, 0, _, rfl, rfl, hb, atI_nat (j := 0) rfl, ?_⟩
      refine ⟨_, rfl, rfl, _, rfl, ?_⟩
      have e2 : ∀ x y : Str, ¬ x = y → (decide (V.str x = V.str y)) = false := fun x y h => decide_eq_false fun z => h (V.str.inj z)
      have no3 : (oFl r1 r2 r3).lookup ("target_at" : Str) = none := oFl_no _ _ _ (by decide +kernel) (by decide +kernel) (by decide +kernel)
      have addW : intsV wy ++ [V.int ((l + 1 : Nat) : Int)] = intsV (wy ++ [l + 1]) := by
        unfold intsV
        rw [List.map_append]
        rfl
      have gaW : (upd G a (.lst (intsV wy ++ [V.int ((l + 1 : Nat) : Int)]))) a = some (.lst (intsV (wy ++ [l + 1]))) := by
        rw [addW]
        exact upd_same
      have SW := S.grow (o := .lst (intsV wy ++ [V.int ((l + 1 : Nat) : Int)])) ga
      have lenW : (wy ++ [l + 1]).length ≤ l + 1 := by
        rw [List.length_append]
        show wy.length + 1 ≤ l + 1
        omega
      have smW : (intsV wy).length < sizeLine := small1000 (by unfold intsV; rw [List.length_map]; omega)
      cases st with
      | els =>
        obtain ⟨t, ht, h1, h2, h3⟩ := hR.els l est
        refine ifT3 (decide_eq_true rfl) ?_
        refine ⟨_, rfl, p, dx, _, rfl, eO, no3, _, rfl, p, rows, xs, sts, tg, l, _, rfl, hOG, ht, ?_⟩
        exact ⟨sts.length + 1 - t, by omega, es, t, wy, _, rfl, S, ga, h2, by omega, by rw [← h3]; exact M, rfl⟩
      | nd =>
        have z1 : ¬ ("end" : Str) = "else" := by decide +kernel
        have z2 : ¬ ("end" : Str) = "if" := by decide +kernel
        have z3 : ¬ ("end" : Str) ∈ enders := by decide +kernel
        refine ifF3 (e2 _ _ z1) ?_
        refine ⟨_, rfl, rfl, _, rfl, ?_⟩
        refine ifF3 (by rw [decide_eq_true (show V.str St.nd.sort = V.str "end" from rfl)]; rfl) ?_
        refine ⟨_, rfl, ce, _, rfl, .inr (hCE _), rfl, flat_str enders, ?_⟩
        rw [if_neg Bool.false_ne_true, inV_str]
        refine ⟨_, rfl, ?_⟩
        refine ifF3 (decide_eq_false z3) ?_
        refine ⟨_, rfl, rfl, _, rfl, ?_⟩
        refine ifF3 (e2 _ _ z2) ?_
        refine ⟨_, rfl, _, _, rfl, rfl, ?_⟩
        exact ⟨sts.length + 1 - (l + 1), by omega, es, l + 1, wy, _, rfl, S, ga, hln, by omega, by rw [← hR.nd l est]; exact M, rfl⟩
      | set n sm sg c =>
        have z1 : ¬ n = "else" := acts_ne hok (by decide +kernel)
        have z2 : ¬ n = "if" := acts_ne hok (by decide +kernel)
        have z3 : ¬ n ∈ enders := fun z => (show ∀ x ∈ enders, ¬ x ∈ actsL by decide +kernel) n z hok
        have z4 : ¬ n = "end" := acts_ne hok (by decide +kernel)
        refine ifF3 (e2 _ _ z1) ?_
        refine ⟨_, rfl, rfl, _, rfl, ?_⟩
        refine ifT3 (show (!decide (V.str n = V.str "end")) = true by rw [e2 _ _ z4]; rfl) ?_
        refine ⟨_, rfl, .inl ⟨rfl, _, SqL.of ga⟩, _, rfl, a, _, _, rfl, rfl, ga, smW, ?_⟩
        refine ⟨_, rfl, ce, _, rfl, .inr (hCE _), rfl, flat_str enders, ?_⟩
        rw [if_neg Bool.false_ne_true, inV_str]
        refine ⟨_, rfl, ?_⟩
        refine ifF3 (decide_eq_false z3) ?_
        refine ⟨_, rfl, rfl, _, rfl, ?_⟩
        refine ifF3 (e2 _ _ z2) ?_
        refine ⟨_, rfl, _, _, rfl, rfl, ?_⟩
        exact ⟨sts.length + 1 - (l + 1), by omega, es, l + 1, wy ++ [l + 1], _, rfl, SW, gaW, hln, lenW, by rw [hR.set l _ _ _ _ est, map_cons_app] at M; exact M, rfl⟩
      | fin x =>
        have hx : x ∈ enders ∧ ¬ x = "else" ∧ ¬ x = "end" := by
          rcases hok with e | e
          · rw [e]; exact ⟨by decide +kernel, by decide +kernel, by decide +kernel⟩
          · rw [e]; exact ⟨by decide +kernel, by decide +kernel, by decide +kernel⟩
        refine ifF3 (e2 _ _ hx.2.1) ?_
        refine ⟨_, rfl, rfl, _, rfl, ?_⟩
        refine ifT3 (show (!decide (V.str x = V.str "end")) = true by rw [e2 _ _ hx.2.2]; rfl) ?_
        refine ⟨_, rfl, .inl ⟨rfl, _, SqL.of ga⟩, _, rfl, a, _, _, rfl, rfl, ga, smW, ?_⟩
        refine ⟨_, rfl, ce, _, rfl, .inr (hCE _), rfl, flat_str enders, ?_⟩
        rw [if_neg Bool.false_ne_true, inV_str]
        refine ⟨_, rfl, ?_⟩
        refine ifT3 (decide_eq_true hx.1) ?_
        rw [hR.fin l x est, List.map_singleton] at M
        exact rA _ _ _ _ _ _ _ _ _ _ _ SW gaW M (hd _ _ _ _)
      | iff c =>
        obtain ⟨t, ht, h1, h2, h3⟩ := hR.iff l c est
        have z1 : ¬ ("if" : Str) = "else" := by decide +kernel
        have z3 : ¬ ("if" : Str) ∈ enders := by decide +kernel
        have z4 : ¬ ("if" : Str) = "end" := by decide +kernel
        refine ifF3 (e2 _ _ z1) ?_
        refine ⟨_, rfl, rfl, _, rfl, ?_⟩
        refine ifT3 (show (!decide (V.str ("if" : Str) = V.str "end")) = true by rw [e2 _ _ z4]; rfl) ?_
        refine ⟨_, rfl, .inl ⟨rfl, _, SqL.of ga⟩, _, rfl, a, _, _, rfl, rfl, ga, smW, ?_⟩
        refine ⟨_, rfl, ce, _, rfl, .inr (hCE _), rfl, flat_str enders, ?_⟩
        rw [if_neg Bool.false_ne_true, inV_str]
        refine ⟨_, rfl, ?_⟩
        refine ifF3 (decide_eq_false z3) ?_
        refine ⟨_, rfl, rfl, _, rfl, ?_⟩
        refine ifT3 (decide_eq_true rfl) ?_
        have hOW := hO.keep SW.same
        obtain ⟨⟨dx', q1, q2, q3, eO', _, _, _⟩, _⟩ := id hOW
        have no4 : (oFl q1 q2 q3).lookup ("target_at" : Str) = none := oFl_no _ _ _ (by decide +kernel) (by decide +kernel) (by decide +kernel)
        refine ⟨_, rfl, .inl ⟨rfl, _, SqL.of SW.gQ⟩, _, rfl, p, dx', _, rfl, eO', no4, _, rfl, p, rows, xs, sts, tg, l, _, rfl, hOW, ht, _, rfl, a, _, rfl, .inl (SqL.of gaW), fun b2 nb => ⟨(by show 2 ≤ sizeLine; decide), fun t0 nt0 => ?_⟩⟩
        have sb := (Same.new (o := .lst (intsV (wy ++ [l + 1]))) nb)
        have st0 := (Same.new (o := .tup [.int ((t + 1 : Nat) : Int), .ref b2]) nt0)
        have S2 := (SW.new sb).new st0
        have hb2 : ∀ y, y ∈ a :: (as ++ es.map (·.a)) → ¬ b2 = y := fun y hy z => by
          rcases List.mem_cons.mp hy with e | e
          · exact ne_of_none gaW nb (e.symm.trans z.symm)
          · rcases List.mem_append.mp e with e | e
            · obtain ⟨o, ho⟩ : ∃ o, (upd G a (.lst (intsV wy ++ [V.int ((l + 1 : Nat) : Int)]))) y = some o := WaysAt.there SW.wa e
              rw [← z, nb] at ho
              cases ho
            · obtain ⟨x, hx, hxa⟩ := List.mem_map.mp e
              have := (SW.ent x hx).1.2
              rw [hxa, ← z, nb] at this
              cases this
        have hn2 : b2 ≠ W0 ∧ b2 ≠ Q0 ∧ H b2 = none := ⟨(ne_of_none SW.gW nb).symm, (ne_of_none SW.gQ nb).symm, none_of SW.same nb⟩
        refine ⟨Q0, _, _, rfl, rfl, S2.gQ, ?_, ?_⟩
        · rw [List.length_map]
          have hc := M.cnt
          have hle : es.length ≤ 900 := WM.lenE hR hRl M (fun e he => (S.ent e he).2.1)
          exact small1000 (by omega)
        refine ⟨_, rfl, _, _, rfl, rfl, ?_⟩
        have PS := S2.push (e := ⟨t0, b2, t, wy ++ [l + 1]⟩) ⟨upd_same, st0 _ _ upd_same⟩ h2 (by show (wy ++ [l + 1]).length ≤ t; omega) (fun z => hb2 _ z rfl) hn2
        refine ⟨sts.length + 1 - (l + 1), by omega, es ++ [⟨t0, b2, t, wy ++ [l + 1]⟩], l + 1, wy ++ [l + 1], _, rfl, PS, ?_, hln, lenW, ?_, rfl⟩
        · have fa := SW.fr a (by simp)
          rw [upd_ne fa.2.1]
          exact st0 _ _ (sb _ _ gaW)
        · rw [h3, List.map_append, map_cons_app, map_cons_app] at M
          exact WM.push (e := ⟨t0, b2, t, wy ++ [l + 1]⟩) M
    refine ⟨_, pss_cons (ps_set (i := 1) scWays.nd rfl (.inl rfl) (pe_lst pa_nil))
      (pss_cons (ps_set (i := 2) scWays.nd rfl (.inl rfl) (pe_lst (pa_cons (pe_tup (pa_cons pe_int (pa_cons (pe_lst pa_nil) pa_nil))) pa_nil)))
      (pss_cons (ps_while PassesOwn.never (pt_truth (pv 2) (by intro _; rfl))
        (pss_cons (ps_asg (pe_bm0 PySem.F.plainAttrs_list PySem.F.slot_list_pop PySem.F.type_list_pop mt_pop (pv 2)) (pg_tup rfl (pgs_cons (pg_name (i := 3) scWays.nd rfl (.inl rfl)) (pgs_cons (pg_name (i := 4) scWays.nd rfl (.inl rfl)) pgs_nil)))) pB))
      (pss_one (ps_ret (pv 1))))), ?_⟩
    refine ⟨(by show 0 ≤ sizeLine; decide), fun W0 nW => ?_⟩
    have s1 := Same.new (o := .lst []) nW
    refine ⟨(by show 0 ≤ sizeLine; decide), fun a0 na => ⟨(by show 2 ≤ sizeLine; decide), fun t0 nt => ⟨(by show 1 ≤ sizeLine; decide), fun Q0 nQ => ?_⟩⟩⟩
    have s2 := Same.new (o := .lst []) na
    have s3 := Same.new (o := .tup [.int 1, .ref a0]) nt
    have s4 := Same.new (o := .lst [.ref t0]) nQ
    have gW1 : (upd H W0 (.lst [])) W0 = some (.lst []) := upd_same
    have ga1 := s3 _ _ (upd_same (H := upd H W0 (.lst [])) (a := a0) (o := .lst []))
    have HW : H W0 = none := nW
    have Ha : H a0 = none := none_of s1 na
    have HQ : H Q0 = none := none_of (s1.trans (s2.trans s3)) nQ
    have S0 : WS H (upd (upd (upd (upd H W0 (.lst [])) a0 (.lst [])) t0 (.tup [.int 1, .ref a0])) Q0 (.lst [.ref t0])) W0 Q0 sts.length [] [] [⟨t0, a0, 0, []⟩] [] := by
      refine ⟨s1.trans (s2.trans (s3.trans s4)), s4 _ _ (s3 _ _ (s2 _ _ gW1)), upd_same, .nil, fun e he => ?_, by simp, fun b hb => ?_, HW, HQ, ne_of_none (s3 _ _ (s2 _ _ gW1)) nQ⟩
      · rw [List.mem_singleton.mp he]
        exact ⟨⟨s4 _ _ upd_same, s4 _ _ ga1⟩, Nat.zero_le _, Nat.le_refl _⟩
      · have e : b = a0 := by simpa using hb
        rw [e]
        exact ⟨(ne_of_none gW1 na).symm, ne_of_none ga1 nQ, Ha⟩
    have M0 : WM R [] [⟨t0, a0, 0, []⟩] [] := by
      refine ⟨fun r => ?_, ?_⟩
      · constructor
        · rintro (h | ⟨e, he, q, hq, z⟩ | h)
          · cases h
          · rw [List.mem_singleton.mp he] at hq z
            rw [z]
            exact hq
          · cases h
        · intro h
          exact .inr (.inl ⟨_, List.mem_singleton.mpr rfl, r, h, rfl⟩)
      · show 0 + ((R 0).length + 0) + 0 = (R 0).length
        omega
    refine ⟨fun m σ G => ∃ (as : List Addr) (ws : List (List Nat)) (es : List Wt) (v3 v4 v5 : Option V), σ = [some (.ref p), some (.ref W0), some (.ref Q0), v3, v4, v5] ∧ WS H G W0 Q0 sts.length as ws es [] ∧ WM R ws es [] ∧ m = wSum R es,
      ⟨_, [], [], _, none, none, none, rfl, S0, M0, rfl⟩, ?_⟩
    rintro m σ G ⟨as, ws, es, v3, v4, v5, rfl, S, M, rfl⟩
    rcases List.eq_nil_or_concat es with e | ⟨es', e, he⟩
    · subst e
      refine ⟨_, rfl, false, .inl ⟨_, SqL.of S.gQ, rfl⟩, ?_⟩
      refine iteF ?_
      refine ⟨_, rfl, ?_⟩
      refine k W0 as ws G S.same S.gW S.wa (fun r => ?_) ?_
      · rw [← M.set r]
        constructor
        · intro h
          exact .inl h
        · rintro (h | ⟨e, he, _⟩ | h)
          · exact h
          · cases he
          · cases h
      · have c := M.cnt
        have z : wSum R [] = 0 := rfl
        have z2 : ([] : List (List Nat)).length = 0 := rfl
        omega
    rw [List.concat_eq_append] at he
    subst he
    refine ⟨_, rfl, true, .inl ⟨_, SqL.of S.gQ, ?_⟩, ?_⟩
    · rw [List.map_append]
      cases es' <;> rfl
    refine iteT ?_
    refine ⟨fun σ' G' => ∃ m', m' < wSum R (es' ++ [e]) ∧ ∃ (as : List Addr) (ws : List (List Nat)) (es : List Wt) (v3 v4 v5 : Option V), σ' = [some (.ref p), some (.ref W0), some (.ref Q0), v3, v4, v5] ∧ WS H G' W0 Q0 sts.length as ws es [] ∧ WM R ws es [] ∧ m' = wSum R es, fun σ' G' z => z, ?_⟩
    obtain ⟨SP, g1, g2, g3, g4⟩ := S.pop
    have hdl : ((es' ++ [e]).map fun e => V.ref e.t).dropLast = es'.map fun e => V.ref e.t := by
      rw [List.map_append]
      exact List.dropLast_concat
    have hlast : ((es' ++ [e]).map fun e => V.ref e.t)[((es' ++ [e]).map fun e => V.ref e.t).length - 1]? = some (.ref e.t) := by
      rw [← List.getLast?_eq_getElem?, List.map_append]
      exact List.getLast?_concat
    refine ⟨_, rfl, .inl ⟨rfl, _, SqL.of S.gQ⟩, Q0, _, _, rfl, rfl, S.gQ, hlast, ?_⟩
    rw [hdl]
    refine ⟨e.t, _, rfl, SqT.of g2, rfl, _, _, rfl, _, _, rfl, rfl, ?_⟩
    refine rB _ _ _ _ _ _ _ _ _ _ _ SP g1 g3 g4 M.pop fun es2 wf v3 v5 G' S' M' => ?_
    refine ⟨wSum R es2, ?_, as ++ [e.a], ws ++ [wf], es2, _, _, _, rfl, S', M', rfl⟩
    have c1 := M.cnt
    have c2 := M'.cnt
    rw [List.length_append] at c2
    have z1 : [wf].length = 1 := rfl
    have z2 : ([] : List (List Nat)).length = 0 := rfl
    omega
end
end K14

set_option Elab.async false
set_option linter.all false
set_option maxRecDepth 100000
set_option maxHeartbeats 8000000
/-! Outlines, f: the first line above a limit -/
namespace K14
open PySem L2
/-- lines and marks in their row; the first line with a mark that stands once too often -/
def aboveGo (lim : Str → Nat) : List (Nat × Str) → List Str → Option Nat
  | [], _ => none
  | (n, m) :: r, seen => if lim m < seen.count m + 1 then some n else aboveGo lim r (seen ++ [m])
def lineMarks (sts : List St) (n : Nat) : List (Nat × Str) := ((sts.getD (n - 1) .nd).marks).map fun m => (n, m)
def wayMarks (sts : List St) (wy : List Nat) : List (Nat × Str) := wy.flatMap (lineMarks sts)
def optN : Option Nat → V
  | none => .non
  | some n => .int (n : Nat)
def spAbove (K : PySem.W.Frag) (C fM : Addr) : Sp := fun vs H Q _ => ∃ (p aw D : Addr) (rows : List Str) (xs : List V) (sts : List St) (tg : List V) (wy : List Nat) (kvs : List (Key × V)) (lim : Str → Nat), vs = [.ref p, .ref aw, .ref fM, .ref D] ∧ OutAt K C H p rows xs sts tg ∧ H aw = some (.lst (intsV wy)) ∧
  (∀ n ∈ wy, 1 ≤ n ∧ n ≤ sts.length) ∧ wy.length ≤ 900 ∧ H D = some (.dK kvs) ∧ (∀ n ∈ wy, ∀ m ∈ (sts.getD (n - 1) .nd).marks, valV kvs (Sum.inr m) = some (.int (lim m : Nat))) ∧ ∀ H', Same H H' → Q (optN (aboveGo lim (wayMarks sts wy) [])) H'
theorem above_more (lim : Str → Nat) : ∀ (a b : List (Nat × Str)) (seen : List Str), aboveGo lim a seen = none → aboveGo lim (a ++ b) seen = aboveGo lim b (seen ++ a.map (·.2))
  | [], b, seen, _ => by rw [List.nil_append, List.map_nil, List.append_nil]
  | (n, m) :: a, b, seen, h => by
    have h' : (if lim m < seen.count m + 1 then some n else aboveGo lim a (seen ++ [m])) = none := h
    show (if lim m < seen.count m + 1 then some n else aboveGo lim (a ++ b) (seen ++ [m])) = _
    by_cases e : lim m < seen.count m + 1
    · rw [if_pos e] at h'
      cases h'
    · rw [if_neg e] at h' ⊢
      rw [above_more lim a b _ h', List.map_cons, List.append_assoc]
      rfl
theorem above_hit (lim : Str → Nat) {n : Nat} : ∀ (a b : List (Nat × Str)) (seen : List Str), aboveGo lim a seen = some n → aboveGo lim (a ++ b) seen = some n
  | [], b, seen, h => by cases h
  | (k, m) :: a, b, seen, h => by
    have h' : (if lim m < seen.count m + 1 then some k else aboveGo lim a (seen ++ [m])) = some n := h
    show (if lim m < seen.count m + 1 then some k else aboveGo lim (a ++ b) (seen ++ [m])) = _
    by_cases e : lim m < seen.count m + 1
    · rw [if_pos e] at h' ⊢
      exact h'
    · rw [if_neg e] at h' ⊢
      exact above_hit lim a b _ h'
/-- the counts stand in a dict -/
def Cnts (kvs : List (Key × V)) (seen : List Str) : Prop := (∀ m : Str, valV kvs (Sum.inr m) = if seen.count m = 0 then none else some (.int (seen.count m : Nat))) ∧ kvs.length ≤ seen.length
theorem putK_len (c : List (Key × V)) (k : Key) (x : V) : (putK c k x).length ≤ c.length + 1 := by
  unfold putK
  split
  · rw [List.length_map]
    omega
  · rw [List.length_append]
    exact Nat.le_refl _
theorem Cnts.put {kvs : List (Key × V)} {seen : List Str} (h : Cnts kvs seen) (m : Str) : Cnts (putK kvs (Sum.inr m) (.int ((seen.count m : Nat) + 1 : Int))) (seen ++ [m]) := by
  refine ⟨fun k => ?_, ?_⟩
  · rw [valV_put, List.count_append]
    by_cases e : k = m
    · subst e
      rw [if_pos rfl, List.count_singleton_self, if_neg (by omega)]
      rfl
    · rw [if_neg (fun z => e (Sum.inr.inj z)), h.1 k]
      have z : [m].count k = 0 := by
        rw [List.count_singleton]
        rw [if_neg (by simpa using fun z => e z.symm)]
      rw [z, Nat.add_zero]
  · have := putK_len kvs (Sum.inr m : Key) (.int ((seen.count m : Nat) + 1 : Int))
    have := h.2
    rw [List.length_append]
    show _ ≤ seen.length + 1
    omega
theorem StsAt.ok {K : PySem.W.Frag} {H : Hp} : ∀ {xs : List V} {sts : List St}, StsAt K H xs sts → ∀ st ∈ sts, st.Ok
  | _, _, .nil, _, h => by cases h
  | _, _, .cons a r, st, h => by
    rcases List.mem_cons.mp h with e | e
    · rw [e]; exact a.2
    · exact StsAt.ok r st e
theorem getD_ok {sts : List St} (hs : ∀ st ∈ sts, st.Ok) (i : Nat) : (sts.getD i .nd).Ok := by
  rw [List.getD_eq_getElem?_getD]
  cases e : sts[i]? with
  | none => trivial
  | some st => exact hs _ (List.mem_of_getElem? e)
theorem marks_len (st : St) (h : st.Ok) : st.marks.length ≤ 4 := by
  cases st with
  | set so n ds c =>
    show (if so ∈ [("size" : Str), "size ahead", "link"] then [n, "read"] else if so ∈ [("set" : Str), "copy", "go"] then [n] else if so ∈ writingL then ["write"] else []).length ≤ 4
    split
    · show 2 ≤ 4
      decide
    split
    · show 1 ≤ 4
      decide
    split
    · show 1 ≤ 4
      decide
    · exact Nat.zero_le 4
  | iff t =>
    obtain ⟨ps, rfl, hl⟩ := h
    show (((ps.map fun p => PyData.tuple [.bool p.1, .tuple (.str p.2.1 :: p.2.2)]).filter partRead).map fun _ => ("read" : Str)).length ≤ 4
    rw [marks_eq, List.length_map]
    exact Nat.le_trans (List.length_filter_le _ _) hl
  | fin x => exact Nat.zero_le 4
  | els => exact Nat.zero_le 4
  | nd => exact Nat.zero_le 4
theorem wayMarks_len (sts : List St) (hs : ∀ st ∈ sts, st.Ok) : ∀ wy : List Nat, (wayMarks sts wy).length ≤ 4 * wy.length
  | [] => Nat.le_refl _
  | n :: wy => by
    have h : wayMarks sts (n :: wy) = lineMarks sts n ++ wayMarks sts wy := List.flatMap_cons
    rw [h, List.length_append, List.length_cons]
    have := wayMarks_len sts hs wy
    have e : (lineMarks sts n).length = ((sts.getD (n - 1) .nd).marks).length := List.length_map _
    have := marks_len (sts.getD (n - 1) .nd) (getD_ok hs _)
    omega
section
variable {P : Program} {w : World} {K : PySem.W.Frag} {mg : Str → Option Value} {base : Heap}
abbrev nmAbove : List Str := ["outline", "way", "marks_of", "most", "many", "line", "mark"]
theorem scAbove : FnScope nmAbove ["outline", "way", "marks_of", "most"] (defScope sAbove) := ⟨rfl, rfl, rfl, by decide +kernel, rfl, by decide +kernel, by decide +kernel⟩
theorem ok_above {f C fM fS : Addr} {fd fdM fdS : FuncData} (F : Fun K "line_above" "line_above" sAbove f fd) (T : TxtN mg) (O : TxtO K mg C)
    (GS : FnOk P w K mg base CX0 1 fS fdS ["self", "line"] (spStepAt K C)) (mS : Meth K C "step_at" fS) (bS : Binds K fdS ["self", "line"] [])
    (GM : FnOk P w K mg base CX0 1 fM fdM ["step"] (spMarks K)) (kM : PySem.W.keepIn K (.ref fM) = true) (bM : Binds K fdM ["step"] []) :
    FnOk P w K mg base CX0 2 f fd ["outline", "way", "marks_of", "most"] (spAbove K C fM) := by
  refine F.ok scAbove (fun vs H Q E h => ?_) (fun cdv A outer s H vs Q E hr h => ?_)
  · obtain ⟨p, aw, D, rows, xs, sts, tg, wy, kvs, lim, rfl, _⟩ := h
    rfl
  · obtain ⟨p, aw, D, rows, xs, sts, tg, wy, kvs, lim, rfl, hO, haw, hwy, hwl, hD, hlim, k⟩ := h
    have hr1 : Room 1 _ := hr.mono (by decide)
    have hu := hu_of hr
    refine ⟨_, pss_cons (ps_set (i := 4) scAbove.nd rfl (.inl rfl) pe_dnewK)
      (pss_cons (ps_for PassesOwn.never rfl (pi_list (pv 1)) (pg_name (i := 5) scAbove.nd rfl (Or.inl rfl))
        (pss_one (ps_for PassesOwn.never rfl (pi_list (pe_callL (i := 2) GM hr1 rfl (Or.inl rfl) kM bM .nil pass0 (pa_cons (pe_meth (pv 0) O.cl mS GS hr1 bS .nil pass0 (pa_cons (pv 5) pa_nil)) pa_nil))) (pg_name (i := 6) scAbove.nd rfl (Or.inl rfl))
          (pss_cons (ps_dput hu (pv 4) (pv 6) (pe_op op_add (pe_dget2 hu (pv 4) (pv 6) pe_int ⟨rfl, rfl, rfl, rfl⟩) pe_int) rfl)
          (pss_one (ps_if (pt_cmpR op_gt (pe_dget hu (pv 4) (pv 6) (fun _ _ => rfl)) (pe_dget hu (pv 3) (pv 6) (fun _ _ => rfl)) (nomark _)) (pss_one (ps_ret (pv 5))) pss_nil))))))
      (pss_one (ps_ret pe_non))), ?_⟩
    intro M0 nM
    have s1 := Same.new (o := .dK []) nM
    have HM : H M0 = none := nM
    refine ⟨_, rfl, aw, rfl, ⟨_, SqL.of (s1 _ _ haw)⟩, for_list (K := K) (a := aw) (xs := intsV wy) (fun i σ G => ∃ kvs2 v5 v6, σ = [some (.ref p), some (.ref aw), some (.ref fM), some (.ref D), some (.ref M0), v5, v6] ∧ Same H G ∧ G M0 = some (.dK kvs2) ∧
      Cnts kvs2 ((wayMarks sts (wy.take i)).map (·.2)) ∧ aboveGo lim (wayMarks sts (wy.take i)) [] = none)
      ⟨[], none, none, rfl, s1, upd_same, ⟨fun m => rfl, Nat.le_refl _⟩, rfl⟩ (fun i σ G _ ⟨_, _, _, _, e, _⟩ => SqL.of (e _ _ haw)) ?_ ?_⟩
    · rintro i y σ G hi ⟨kvs2, v5, v6, rfl, hG, gM, hC, hA⟩
      obtain ⟨n, hni, rfl⟩ : ∃ n, wy[i]? = some n ∧ y = V.int (n : Nat) := by
        unfold intsV at hi
        rw [List.getElem?_map] at hi
        cases e : wy[i]? with
        | none => rw [e] at hi; cases hi
        | some x => rw [e] at hi; exact ⟨x, rfl, (Option.some.inj hi).symm⟩
      have hnm := List.mem_of_getElem? hni
      obtain ⟨n1, n2⟩ := hwy n hnm
      have hOG := hO.keep hG
      have hxl : xs.length = sts.length := Paired.length hO.st
      obtain ⟨⟨dx, r1, r2, r3, eO, _, _, _⟩, _⟩ := id hOG
      have no2 : (oFl r1 r2 r3).lookup ("step_at" : Str) = none := oFl_no _ _ _ (by decide +kernel) (by decide +kernel) (by decide +kernel)
      obtain ⟨v, hv⟩ : ∃ v, xs[n - 1]? = some v := ⟨_, List.getElem?_eq_getElem (by omega)⟩
      obtain ⟨st, est, hvt, hok⟩ := Paired.get hOG.st hv
      have hgd : sts.getD (n - 1) .nd = st := by
        rw [List.getD_eq_getElem?_getD, est]
        rfl
      have hti : wayMarks sts (wy.take (i + 1)) = wayMarks sts (wy.take i) ++ st.marks.map fun m => (n, m) := by
        unfold wayMarks
        rw [take_more hni, List.flatMap_append]
        show _ ++ (lineMarks sts n ++ []) = _
        rw [List.append_nil]
        unfold lineMarks
        rw [hgd]
      have hil : i ≤ 900 := by
        have := (List.getElem?_eq_some_iff.mp hni).1
        omega
      have hlen0 : (wayMarks sts (wy.take i)).length ≤ 3600 := by
        have a := wayMarks_len sts (StsAt.ok hO.st) (wy.take i)
        rw [List.length_take] at a
        omega
      refine ⟨rfl, _, rfl, p, dx, _, rfl, eO, no2, _, rfl, p, rows, xs, sts, tg, n - 1, v, (by rw [show n - 1 + 1 = n by omega]; rfl), hOG, hv, v, st, rfl, hvt, hok, fun m0 G1 s2 hm0 => ?_⟩
      have hG1 := hG.trans s2
      have hMm : M0 ≠ m0 := ne_of (s2 _ _ gM) hm0 (by intro z; cases z)
      refine ⟨m0, rfl, ⟨_, SqL.of hm0⟩, for_list (K := K) (a := m0) (xs := st.marks.map V.str) (fun j σ G => ∃ kvs3 v6, σ = [some (.ref p), some (.ref aw), some (.ref fM), some (.ref D), some (.ref M0), some (.int (n : Nat)), v6] ∧ Same H G ∧ G M0 = some (.dK kvs3) ∧ G m0 = some (.lst (st.marks.map V.str)) ∧
        Cnts kvs3 ((wayMarks sts (wy.take i)).map (·.2) ++ st.marks.take j) ∧ aboveGo lim (wayMarks sts (wy.take i) ++ (st.marks.take j).map fun m => (n, m)) [] = none)
        ⟨kvs2, _, rfl, hG1, s2 _ _ gM, hm0, by rw [List.take_zero, List.append_nil]; exact hC, by rw [List.take_zero, List.map_nil, List.append_nil]; exact hA⟩ (fun j σ G _ ⟨_, _, _, _, _, e, _⟩ => SqL.of e) ?_ ?_⟩
      · rintro j y σ G2 hj ⟨kvs3, v6', rfl, hG2, gM2, gm2, hC2, hA2⟩
        obtain ⟨m, hmj, rfl⟩ : ∃ m, st.marks[j]? = some m ∧ y = V.str m := by
          rw [List.getElem?_map] at hj
          cases e : st.marks[j]? with
          | none => rw [e] at hj; cases hj
          | some x => rw [e] at hj; exact ⟨x, rfl, (Option.some.inj hj).symm⟩
        obtain ⟨seen, hseen⟩ : ∃ seen, seen = (wayMarks sts (wy.take i)).map (·.2) ++ st.marks.take j := ⟨_, rfl⟩
        rw [← hseen] at hC2
        have hseen2 : (wayMarks sts (wy.take i) ++ (st.marks.take j).map fun m => (n, m)).map (·.2) = seen := by
          rw [hseen, List.map_append, List.map_map]
          congr 1
          exact List.map_id _
        have hsl : seen.length ≤ 3604 := by
          rw [hseen, List.length_append, List.length_map, List.length_take]
          have := marks_len st hok
          omega
        have hk2 := hC2.2
        have hget : (valV kvs3 (Sum.inr m)).getD (.int 0) = .int ((seen.count m : Nat) : Int) := by
          rw [hC2.1 m]
          by_cases z : seen.count m = 0
          · rw [if_pos z, z]
            rfl
          · rw [if_neg z]
            rfl
        have hC3 := hC2.put m
        have hgo : aboveGo lim (wayMarks sts (wy.take i) ++ (st.marks.take (j + 1)).map fun m => (n, m)) [] = if lim m < seen.count m + 1 then some n else none := by
          rw [take_more hmj, List.map_append, ← List.append_assoc, above_more lim _ _ _ hA2, List.nil_append, hseen2]
          rfl
        have gM3 : (upd G2 M0 (.dK (putK kvs3 (Sum.inr m) (.int ((seen.count m : Nat) + 1 : Int))))) M0 = some (.dK (putK kvs3 (Sum.inr m) (.int ((seen.count m : Nat) + 1 : Int)))) := upd_same
        have hs3 := Same.write (o := .dK (putK kvs3 (Sum.inr m) (.int ((seen.count m : Nat) + 1 : Int)))) hG2 HM
        have hv3 : valV (putK kvs3 (Sum.inr m) (.int ((seen.count m : Nat) + 1 : Int))) (Sum.inr m) = some (.int ((seen.count m : Nat) + 1 : Int)) := by
          rw [valV_put, if_pos rfl]
        have hlimm := hlim n hnm m (by rw [hgd]; exact List.mem_of_getElem? hmj)
        refine ⟨_, rfl, M0, rfl, .inl ⟨_, .inl gM2⟩, _, rfl, _, DGet.k (k := Sum.inr m) gM2, _, _, hget, rfl, _, rfl, _, rfl, M0, _, rfl, DPut.k (k := Sum.inr m) gM2 ?_, ?_⟩
        · have : 3604 < sizeLine := by decide
          omega
        have dD : DGet (upd G2 M0 (.dK (putK kvs3 (Sum.inr m) (.int ((seen.count m : Nat) + 1 : Int))))) M0 (.str m) (some (.int ((seen.count m : Nat) + 1 : Int))) := by
          rw [← hv3]
          exact DGet.k (k := Sum.inr m) gM3
        have dL : DGet (upd G2 M0 (.dK (putK kvs3 (Sum.inr m) (.int ((seen.count m : Nat) + 1 : Int))))) D (.str m) (some (.int (lim m : Nat))) := by
          rw [← hlimm]
          exact DGet.k (k := Sum.inr m) (hs3 _ _ hD)
        refine ⟨_, rfl, _, rfl, M0, _, rfl, dD, _, rfl, _, rfl, D, _, rfl, dL, _, _, rfl, rfl, _, rfl, ?_⟩
        by_cases hh : lim m < seen.count m + 1
        · rw [if_pos hh] at hgo
          refine ifT3 (decide_eq_true (by omega)) ?_
          refine ⟨_, rfl, ?_⟩
          have fin : aboveGo lim (wayMarks sts wy) [] = some n := by
            have e1 : wayMarks sts wy = (wayMarks sts (wy.take i) ++ (st.marks.take (j + 1)).map fun m => (n, m)) ++ ((st.marks.drop (j + 1)).map (fun m => (n, m)) ++ wayMarks sts (wy.drop (i + 1))) := by
              rw [List.append_assoc, ← List.append_assoc (((st.marks.take (j + 1)).map fun m => (n, m))), ← List.map_append, List.take_append_drop, ← List.append_assoc, ← hti]
              unfold wayMarks
              rw [← List.flatMap_append, List.take_append_drop]
            rw [e1]
            exact above_hit lim _ _ _ hgo
          have kk := k _ hs3
          rw [fin] at kk
          exact kk
        · rw [if_neg hh] at hgo
          refine ifF3 (decide_eq_false (by omega)) ?_
          refine ⟨_, _, rfl, hs3, gM3, by rw [upd_ne hMm.symm]; exact gm2, ?_, hgo⟩
          rw [take_more hmj, ← List.append_assoc, ← hseen]
          exact hC3
      · rintro σ G2 ⟨kvs3, v6', rfl, hG2, gM2, gm2, hC2, hA2⟩
        rw [List.length_map, List.take_length] at hC2 hA2
        refine ⟨kvs3, _, _, rfl, hG2, gM2, ?_, by rw [hti]; exact hA2⟩
        rw [hti, List.map_append, List.map_map]
        have e : (st.marks.map ((fun x => x.2) ∘ fun m => (n, m))) = st.marks := List.map_id _
        rw [e]
        exact hC2
    · rintro σ G ⟨kvs2, v5, v6, rfl, hG, gM, hC, hA⟩
      unfold intsV at hA
      rw [List.length_map, List.take_length] at hA
      have kk := k G hG
      rw [hA] at kk
      exact kk
end
end K14

set_option Elab.async false
set_option linter.all false
set_option maxRecDepth 100000
set_option maxHeartbeats 8000000
/-! Outlines, g: the least broken line refused -/
namespace K14
open PySem L2
abbrev sRefI : Stmt := inClass (top 5) 0
def spRefuse (K : PySem.W.Frag) (CR : Addr) : Sp := fun vs H Q E => ∃ (a : Addr) (os : List (Option Nat)), vs = [.ref a] ∧ SqL K H a (os.map optN) ∧ os.length ≤ 900 ∧ (os.filterMap id = [] → ∀ H', Same H H' → Q .non H') ∧
  (∀ m ∈ os.filterMap id, (∀ y ∈ os.filterMap id, m ≤ y) → ∀ d H', Same H H' → H d = none → H' d = some (.xd [("line", .int (m : Nat))]) → E (.ref CR) (some d) H')
/-- the facts of Refused -/
structure TxtR (P : Program) (K : PySem.W.Frag) (mg : Str → Option Value) (CR fI cc cda : Addr) : Prop where
  g : mg "Refused" = some (.ref CR)
  t : ErrA.ErrTxt P K CR fI cc cda "Refused.__init__" sRefI
  b : ErrA.ErrBody P sRefI "line" []
  n : ∀ g ∈ [("line" : Str)], PySem.W.findIn K (.ref CR) g = some none
  min : mg "min" = none
section
variable {P : Program} {w : World} {K : PySem.W.Frag} {mg : Str → Option Value} {base : Heap}
abbrev nmRef : List Str := ["lines", "broken", "line"]
theorem scRefuse : FnScope nmRef ["lines"] (defScope sRefuse) := ⟨rfl, rfl, rfl, by decide +kernel, rfl, by decide +kernel, by decide +kernel⟩
theorem ok_refuse {f CR fI cc cda : Addr} {fd : FuncData} (F : Fun K "refuse_least" "refuse_least" sRefuse f fd) (T : TxtN mg) (R : TxtR P K mg CR fI cc cda) :
    FnOk P w K mg base (L2.CX P w) 1 f fd ["lines"] (spRefuse K CR) := by
  refine F.okX scRefuse (fun vs H Q E h => ?_) (fun cdv A outer s H vs Q E hr h => ?_)
  · obtain ⟨a, os, rfl, _⟩ := h
    rfl
  · obtain ⟨a, os, rfl, ha, hl, k1, k2⟩ := h
    refine ⟨_, pss_cons (ps_setLc (i := 1) (own := [("line", 2)]) (g := gName 2) rfl scRefuse.nd rfl rfl (sw_true rfl rfl rfl (by decide +kernel)) (pi_list (pv 0)) (blkOk_by (own := [("line", 2)]) (N := nmRef) (sc := defScope sRefuse) (by decide +kernel)) (fun _ _ _ _ _ => pg_name (i := 2) scRefuse.nd rfl (Or.inl rfl)) (fun _ _ _ _ _ => pts_one (pt_cmpR op_notN (pv 2) pe_non (nomark _))) (fun _ _ _ _ _ => pv 2))
      (pss_one (ps_if (pt_truth (pv 1) (by intro _; rfl)) (pss_one (ps_raiseErr rfl R.t R.b R.n hr R.g (takes_of rfl rfl rfl rfl) (pa_cons (pe_callB (cr_min rfl) (by rfl) R.min (by kernel_rfl) (pa_cons (pv 1) pa_nil)) pa_nil))) pss_nil)), ?_⟩
    refine ⟨_, rfl, a, rfl, ⟨_, ha⟩, fun D nD => ?_⟩
    have sD := Same.new (o := .lst []) nD
    refine lc_list (K := K) (a := a) (xs := os.map optN) (fun i G => Same H G ∧ G D = some (.lst (intsV ((os.take i).filterMap id)))) ⟨sD, upd_same⟩ (fun i G _ ⟨e, _⟩ => e.seq ha) ?_ ?_
    · rintro i y G hi ⟨hG, gD⟩
      obtain ⟨o, ho, rfl⟩ : ∃ o, os[i]? = some o ∧ y = optN o := by
        rw [List.getElem?_map] at hi
        cases e : os[i]? with
        | none => rw [e] at hi; cases hi
        | some x => rw [e] at hi; exact ⟨x, rfl, (Option.some.inj hi).symm⟩
      have hle : ((os.take i).filterMap id).length ≤ 900 := Nat.le_trans (List.length_filterMap_le _ _) (by rw [List.length_take]; omega)
      refine ⟨rfl, ?_⟩
      refine ⟨_, rfl, rfl, _, rfl, ?_⟩
      cases o with
      | none =>
        refine iteF ?_
        refine ⟨hG, ?_⟩
        rw [take_more ho, List.filterMap_append]
        show G D = some (.lst (intsV ((os.take i).filterMap id ++ [])))
        rw [List.append_nil]
        exact gD
      | some n =>
        refine iteT ?_
        refine ⟨_, rfl, _, gD, small1000 (by unfold intsV; rw [List.length_map]; omega), Same.write hG nD, ?_⟩
        rw [take_more ho, List.filterMap_append]
        have e : intsV ((os.take i).filterMap id ++ [some n].filterMap id) = intsV ((os.take i).filterMap id) ++ [V.int (n : Nat)] := by
          unfold intsV
          rw [List.map_append]
          rfl
        rw [e]
        exact upd_same
    · rintro G ⟨hG, gD⟩
      rw [List.length_map, List.take_length] at gD
      cases hb : os.filterMap id with
      | nil =>
        rw [hb] at gD
        refine ⟨_, rfl, false, .inl ⟨_, SqL.of gD, rfl⟩, ?_⟩
        refine iteF ?_
        exact k1 hb G hG
      | cons n0 rest =>
        refine ⟨_, rfl, true, .inl ⟨_, SqL.of gD, by rw [hb]; rfl⟩, ?_⟩
        refine iteT ?_
        have hint : intsV (os.filterMap id) = ((os.filterMap id).map fun n => ((n : Nat) : Int)).map V.int := by
          unfold intsV
          rw [List.map_map]
          rfl
        rw [hint] at gD
        refine ⟨_, rfl, D, _, rfl, SqL.of gD, by rw [List.length_map, hb]; exact Nat.succ_pos _, fun m hm hmin => ?_⟩
        obtain ⟨m', hm', rfl⟩ := List.mem_map.mp hm
        refine ⟨rfl, fun d nd => ?_⟩
        exact k2 m' hm' (fun y hy => by
          have := hmin _ (List.mem_map.mpr ⟨y, hy, rfl⟩)
          omega) d _ (hG.trans (Same.new nd)) (none_of hG nd) upd_same
end
end K14

set_option Elab.async false
set_option linter.all false
set_option maxRecDepth 100000
set_option maxHeartbeats 8000000
/-! Block codes, j: rules made -/
namespace K14
open PySem L2
structure TxtBR (K : PySem.W.Frag) (mg : Str → Option Value) (C : Addr) : Prop where
  cl : Cls K C
  nU : NoAttr K C "unit"
  nL : NoAttr K C "least"
  mgC : mg "BlockRules" = some (.ref C)
  mu : ∃ t, mg "MOST_UNIT" = some (.int 64 t)
  ll : ∃ t, mg "LEAST_LEAST" = some (.int 4 t)
def spBR (K : PySem.W.Frag) (C : Addr) : Sp := fun vs H Q _ => ∃ (p dx : Addr), vs = [.ref p, .int 1, .int 4] ∧ H p = some (.ins C dx []) ∧ ∀ H', But p H H' → Q .non H'
section
variable {P : Program} {w : World} {K : PySem.W.Frag} {mg : Str → Option Value} {base : Heap}
theorem scBR : FnScope ["self", "unit", "least"] ["self", "unit", "least"] (defScope sBR) := ⟨rfl, rfl, rfl, by decide +kernel, rfl, by decide +kernel, by decide +kernel⟩
theorem ok_rinit {f fF C : Addr} {fd fdF : FuncData} (F : Fun K "__init__" "BlockRules.__init__" sBR f fd) (T : TxtBR K mg C)
    (GF : FnOk P w K mg base CX0 2 fF fdF ["value", "least"] spFrom) (kF : PySem.W.keepIn K (.ref fF) = true) (bF : Binds K fdF ["value", "least"] []) (gF : mg "is_from" = some (.ref fF)) :
    FnOk P w K mg base CX0 3 f fd ["self", "unit", "least"] (spBR K C) := by
  obtain ⟨t1, h1⟩ := T.mu
  obtain ⟨t2, h2⟩ := T.ll
  refine F.ok scBR (fun vs H Q E h => ?_) (fun cdv A outer s H vs Q E hr h => ?_)
  · obtain ⟨p, dx, rfl, _⟩ := h
    rfl
  · obtain ⟨p, dx, rfl, hp, k⟩ := h
    refine ⟨_, pss_cons (ps_if (PW.pt (pw_or (pt_not (pt_val (pe_call GF hr rfl gF kF bF .nil pass0 (pa_cons (pv 1) (pa_cons pe_int pa_nil))))) (pw_or1 (pt_cmpR op_gt (pv 1) (pe_glob (v := .int 64) (by rfl) h1 ⟨t1, rfl⟩) (nomark _))))) (pss_one PS.ghost) pss_nil)
      (pss_cons (ps_if (PW.pt (pw_or (pt_not (pt_val (pe_call GF hr rfl gF kF bF .nil pass0 (pa_cons (pv 2) (pa_cons (pe_glob (v := .int 4) (by rfl) h2 ⟨t2, rfl⟩) pa_nil))))) (pw_or1 (pt_cmpR op_ne (pe_op op_mod (pv 2) (pv 1)) pe_int (nomark _))))) (pss_one PS.ghost) pss_nil)
      (pss_cons (ps_fld (pv 0) (pv 1) rfl)
      (pss_one (ps_fld (pv 0) (pv 2) rfl)))), ?_⟩
    refine ⟨_, rfl, 1, 1, rfl, _, rfl, ?_⟩
    refine ifF3 rfl ?_
    refine ⟨_, rfl, 1, 64, rfl, rfl, _, rfl, ?_⟩
    refine iteF ?_
    refine nxt ?_
    dsimp only
    refine ⟨_, rfl, 4, 4, rfl, _, rfl, ?_⟩
    refine ifF3 rfl ?_
    refine ⟨_, rfl, _, rfl, 4, 1, rfl, rfl, by decide, ?_⟩
    refine ⟨rfl, _, rfl, ?_⟩
    refine iteF ?_
    refine nxt ?_
    dsimp only
    refine ⟨_, rfl, _, rfl, p, C, dx, [], rfl, hp, T.cl, T.nU, (by show 0 < 1000; decide), ?_⟩
    refine ⟨_, rfl, _, rfl, p, C, dx, _, rfl, upd_same, T.cl, T.nL, (by show 1 < 1000; decide), ?_⟩
    exact k _ (But.upd.trans But.upd)
end
end K14

set_option Elab.async false
set_option linter.all false
set_option maxRecDepth 100000
set_option maxHeartbeats 8000000
/-! A copy of a dict of the module, texts to whole numbers -/
namespace L2
open PySem PySem.Spec PyProof.Rows
/-- the entries of a written dict, in order -/
def EntAt : List DictEntry → List (Str × Int) → Prop
  | [], [] => True
  | e :: es, q :: qs => ((∃ t, e.key = .str q.1 t) ∧ ∃ t, e.val = .int q.2 t) ∧ EntAt es qs
  | _, _ => False
theorem EntAt.pairs {prog : Program} {w : World} : ∀ {es : List DictEntry} {qs : List (Str × Int)}, EntAt es qs → ∃ vs : List (Key × Value), PySem.Pairs (mixKind prog w) es vs ∧ KV (qs.map fun q => ((Sum.inr q.1 : Key), V.int q.2)) vs ∧ vs.map (·.1) = qs.map fun q => (Sum.inr q.1 : Key)
  | [], [], _ => ⟨[], .nil, .nil, rfl⟩
  | e :: es, q :: qs, ⟨⟨⟨t, ek⟩, ⟨u, ev⟩⟩, r⟩ => by
    obtain ⟨vs, p, k, m⟩ := EntAt.pairs (prog := prog) (w := w) r
    refine ⟨(Sum.inr q.1, .int q.2 u) :: vs, .cons ?_ ev p, .cons ⟨rfl, ⟨u, rfl⟩⟩ k, ?_⟩
    · show keyIs (Sum.inr q.1) e.key = true
      rw [ek]
      exact keyIs_str _ _
    · rw [List.map_cons, List.map_cons, m]
  | [], _ :: _, h => h.elim
  | _ :: _, [], h => h.elim
/-- a dict of the module, of numbers by texts -/
def KInts (K : PySem.W.Frag) (w : World) (d : Addr) (qs : List (Str × Int)) : Prop := ∃ es n, KDict K w d es n ∧ EntAt es.toList qs ∧ (qs.map fun q => (Sum.inr q.1 : Key)).Nodup ∧ qs.length ≤ sizeLine
def rDictK (K : PySem.W.Frag) (w : World) : List V → Hp → VK → Prop := fun xs H Q => ∃ (d : Addr) (qs : List (Str × Int)), xs = [.ref d] ∧ KInts K w d qs ∧ ∀ p, H p = none → Q (.ref p) (upd H p (.dK (qs.map fun q => (Sum.inr q.1, V.int q.2))))
theorem call_dictK {X : Cx} : CallR X (.type "dict") (rDictK X.K X.w) := by
  intro pins s σ H xs us Q I r q
  obtain ⟨d, qs, ex, ⟨es, n, D, en, nd, z⟩, q⟩ := q
  subst ex
  obtain ⟨u, eu, rx⟩ := vals1 r
  subst eu
  cases rx
  obtain ⟨vs, pr, rel, ks⟩ := en.pairs (prog := X.prog) (w := X.w)
  have hd : s.heap.DictOf (mixKind X.prog X.w) d vs := ⟨_, es, n, I.kIn _ _ D.at_, ⟨rfl, rfl, rfl⟩, rfl, fun e he => by
    obtain ⟨x, t, e1, e2⟩ := D.lit.all e (Array.mem_toList_iff.mpr he)
    exact ⟨Sum.inr x, by show keyIs (Sum.inr x) e.key = true; rw [e1]; exact keyIs_str x t, e2⟩, pr, by rw [ks]; exact nd⟩
  have hz : vs.length ≤ sizeLine := by
    have a := congrArg List.length ks
    rw [List.length_map, List.length_map] at a
    rw [a]
    exact z
  refine kt_call_dict D.low hd hz fun h' d' hs => ?_
  have hm : (s.heap.objs.size == sysModules) = false := beq_eq_false_iff_ne.mpr (Nat.ne_of_gt I.big)
  exact ⟨.ref s.heap.objs.size, upd H s.heap.objs.size (.dK (qs.map fun q => (Sum.inr q.1, V.int q.2))), I.laid (t' := s.toks) (fun b u e => (hs.2 b (Nat.ne_of_lt (Heap.lt_size e))).trans (Heap.get?_push_of_some _ e)) (Nat.le_refl _)
    (show ObjOk X.prog X.w _ _ _ (.dK _) from ⟨by rw [List.length_map]; exact z, hm, vs, rel, d'⟩), rfl, q _ (I.hok.fresh (Nat.le_refl _))⟩
end L2

set_option Elab.async false
set_option linter.all false
set_option maxRecDepth 100000
set_option maxHeartbeats 8000000
/-! Block codes, k: what may be marked; the lines that are counted -/
namespace K14
open PySem L2
def mostL : List (Str × Int) := [("a", 3), ("b", 3), ("c", 3), ("p", 4), ("q", 4), ("r", 4), ("s", 4), ("read", 12), ("write", 14)]
def limM (m : Str) : Nat := if m ∈ regsL then 3 else if m ∈ placesL then 4 else if m = "read" then 12 else 14
def markN : List Str := ["a", "b", "c", "p", "q", "r", "s", "read", "write"]
theorem most_lim : ∀ m ∈ markN, valV (mostL.map fun q => ((Sum.inr q.1 : Key), V.int q.2)) (Sum.inr m) = some (.int (limM m : Nat)) := by decide +kernel
/-- what a line tells may be marked by its own name, by reading, by writing -/
def ActM (d : PyData) : Prop := d = .tuple [.str "quit"] ∨ d = .tuple [.str "no"] ∨ ∃ (so n : Str) (ds : List PyData), d = .tuple (.str so :: .str n :: ds) ∧ (n ∈ regsL ++ placesL ∨ so ∈ writingL)
theorem stepM_actM {kd : Str} {ws : List Str} {d : PyData} (h : stepM kd ws = some d) : ActM d := by
  unfold stepM at h
  split at h
  · rename_i hq
    cases h
    rcases hq with rfl | rfl
    · exact .inl rfl
    · exact .inr (.inl rfl)
  split at h
  · split at h
    · rename_i hr
      have hm : wd ws 0 ∈ regsL ++ placesL := List.mem_append_left _ hr
      unfold regM at h
      split at h
      · cases h; exact .inr (.inr ⟨_, _, _, rfl, .inl hm⟩)
      split at h
      · cases h; exact .inr (.inr ⟨_, _, _, rfl, .inl hm⟩)
      · obtain ⟨acc, _, rfl⟩ := Option.map_eq_some_iff.mp h
        exact .inr (.inr ⟨_, _, _, rfl, .inl hm⟩)
    split at h
    · rename_i hr
      have hm : wd ws 0 ∈ regsL ++ placesL := List.mem_append_right _ hr
      unfold placeM at h
      split at h
      · cases h; exact .inr (.inr ⟨_, _, _, rfl, .inl hm⟩)
      split at h
      · cases h
      split at h
      · cases h; exact .inr (.inr ⟨_, _, _, rfl, .inl hm⟩)
      split at h
      · cases h
      · obtain ⟨acc, _, rfl⟩ := Option.map_eq_some_iff.mp h
        exact .inr (.inr ⟨_, _, _, rfl, .inl hm⟩)
    · cases h
  split at h
  · unfold sizedM at h
    split at h
    · cases h
    split at h
    · unfold headM at h
      split at h
      · cases h; exact .inr (.inr ⟨_, _, _, rfl, .inr (by decide +kernel)⟩)
      · cases h
    · obtain ⟨acc, _, rfl⟩ := Option.map_eq_some_iff.mp h
      refine .inr (.inr ⟨_, _, _, rfl, .inr ?_⟩)
      split <;> decide +kernel
  split at h
  · unfold flagStepM at h
    dsimp only at h
    split at h
    all_goals
      split at h
      · obtain ⟨u, _, rfl⟩ := Option.map_eq_some_iff.mp h
        exact .inr (.inr ⟨_, _, _, rfl, .inr (by decide +kernel)⟩)
      · cases h
  split at h
  · unfold tieM at h
    split at h
    · cases h; exact .inr (.inr ⟨_, _, _, rfl, .inr (by decide +kernel)⟩)
    · cases h
  · cases h
theorem own_markN {n : Str} (h : n ∈ regsL ++ placesL) : n ∈ markN := (show ∀ n ∈ regsL ++ placesL, n ∈ markN by decide +kernel) n h
theorem wr_not {so : Str} (h : so ∈ writingL) : ¬ so ∈ [("size" : Str), "size ahead", "link"] ∧ ¬ so ∈ [("set" : Str), "copy", "go"] := (show ∀ so ∈ writingL, ¬ so ∈ [("size" : Str), "size ahead", "link"] ∧ ¬ so ∈ [("set" : Str), "copy", "go"] by decide +kernel) so h
theorem stepS_marks {kd : Str} {ws : List Str} {st : St} (h : stepS kd ws = some st) : ∀ m ∈ st.marks, m ∈ markN := by
  unfold stepS at h
  cases e : stepM kd ws with
  | none => rw [e] at h; cases h
  | some d =>
    rw [e] at h
    have h' : ofD d = some st := h
    rcases stepM_actM e with rfl | rfl | ⟨so, n, ds, rfl, hn⟩
    · cases h'; exact fun m hm => nomatch hm
    · cases h'; exact fun m hm => nomatch hm
    · cases h'
      intro m hm
      have hm' : m ∈ (if so ∈ [("size" : Str), "size ahead", "link"] then [n, "read"] else if so ∈ [("set" : Str), "copy", "go"] then [n] else if so ∈ writingL then ["write"] else []) := hm
      rcases hn with hn | hn
      · split at hm'
        · rcases List.mem_cons.mp hm' with z | z
          · rw [z]; exact own_markN hn
          · rw [List.mem_singleton.mp z]; decide +kernel
        split at hm'
        · rw [List.mem_singleton.mp hm']; exact own_markN hn
        split at hm'
        · rw [List.mem_singleton.mp hm']; decide +kernel
        · cases hm'
      · rw [if_neg (wr_not hn).1, if_neg (wr_not hn).2, if_pos hn] at hm'
        rw [List.mem_singleton.mp hm']
        decide +kernel
theorem iff_marks {t : PyData} : ∀ m ∈ (St.iff t).marks, m ∈ markN := fun m hm => by
  have h : m ∈ iffMarks t := hm
  unfold iffMarks at h
  split at h
  · obtain ⟨_, _, e⟩ := List.mem_map.mp h
    rw [← e]
    decide +kernel
  · cases h
theorem readS_marks {kd : Str} {ws nest n2 : List Str} {st : St} (h : readS kd ws nest = some (st, n2)) : ∀ m ∈ st.marks, m ∈ markN := by
  unfold readS at h
  split at h
  · cases e : testM (hPartM kd) (ws.drop 1) with
    | none => rw [e] at h; cases h
    | some t => rw [e] at h; cases h; exact iff_marks
  split at h
  · split at h
    · cases h
    · cases h; intro m hm; cases hm
  split at h
  · split at h
    · cases h
    · cases h; intro m hm; cases hm
  · cases e : stepS kd ws with
    | none => rw [e] at h; cases h
    | some s => rw [e] at h; cases h; exact stepS_marks e
theorem readGo_marks {kd : Str} {sts : List St} {n2 : List Str} : ∀ (rows : List Str) (acc : List St) (nest : List Str), readGo kd rows acc nest = some (sts, n2) → (∀ st ∈ acc, ∀ m ∈ st.marks, m ∈ markN) → ∀ st ∈ sts, ∀ m ∈ st.marks, m ∈ markN
  | [], acc, nest, h, ha => by
    have e : (acc, nest) = (sts, n2) := Option.some.inj h
    cases e
    exact ha
  | r :: rs, acc, nest, h, ha => by
    have h' : (match readS kd (Txt.split r " ") nest with
      | none => none
      | some (st, n2) => readGo kd rs (acc ++ [st]) n2) = some (sts, n2) := h
    cases e : readS kd (Txt.split r " ") nest with
    | none => rw [e] at h'; cases h'
    | some q =>
      obtain ⟨st, n3⟩ := q
      rw [e] at h'
      refine readGo_marks rs _ _ h' fun s hs => ?_
      rcases List.mem_append.mp hs with z | z
      · exact ha s z
      · rw [List.mem_singleton.mp z]
        exact readS_marks e
theorem readGo_len {kd : Str} {sts : List St} {n2 : List Str} : ∀ (rows : List Str) (acc : List St) (nest : List Str), readGo kd rows acc nest = some (sts, n2) → sts.length = acc.length + rows.length
  | [], acc, nest, h => by
    have e : (acc, nest) = (sts, n2) := Option.some.inj h
    cases e
    rfl
  | r :: rs, acc, nest, h => by
    have h' : (match readS kd (Txt.split r " ") nest with
      | none => none
      | some (st, n2) => readGo kd rs (acc ++ [st]) n2) = some (sts, n2) := h
    cases e : readS kd (Txt.split r " ") nest with
    | none => rw [e] at h'; cases h'
    | some q =>
      obtain ⟨st, n3⟩ := q
      rw [e] at h'
      have z := readGo_len rs _ _ h'
      rw [List.length_append] at z
      rw [List.length_cons, z]
      show acc.length + 1 + _ = _
      omega
/-- lines on a way stand in it, and are not more than there are -/
theorem RunEq.within {sts : List St} {tg : List V} {R : Nat → List (List Nat)} (h : RunEq sts tg R) : ∀ (m l : Nat), sts.length - l ≤ m → l ≤ sts.length → ∀ w ∈ R l, w.length + l ≤ sts.length ∧ ∀ n ∈ w, l < n ∧ n ≤ sts.length
  | m, l, hm, hl => by
    by_cases e : l < sts.length
    case neg =>
      rw [h.out l (by omega)]
      intro w hw
      rw [List.mem_singleton.mp hw]
      exact ⟨by simp; omega, fun n hn => nomatch hn⟩
    have hs : sts[l]? = some sts[l] := List.getElem?_eq_getElem e
    cases m with
    | zero => omega
    | succ m =>
    have step : ∀ t, l < t → t ≤ sts.length → ∀ w ∈ (R t).map ((l + 1) :: ·), w.length + l ≤ sts.length ∧ ∀ n ∈ w, l < n ∧ n ≤ sts.length := fun t h1 h2 w hw => by
      obtain ⟨q, hq, rfl⟩ := List.mem_map.mp hw
      obtain ⟨a, b⟩ := RunEq.within h m t (by omega) h2 q hq
      refine ⟨by rw [List.length_cons]; omega, fun n hn => ?_⟩
      rcases List.mem_cons.mp hn with z | z
      · omega
      · have := b n z
        omega
    generalize sts[l] = st at hs
    cases st with
    | fin x =>
      rw [h.fin l x hs]
      intro w hw
      rw [List.mem_singleton.mp hw]
      exact ⟨by show 1 + l ≤ _; omega, fun n hn => by rw [List.mem_singleton.mp hn]; omega⟩
    | nd =>
      rw [h.nd l hs]
      intro w hw
      obtain ⟨a, b⟩ := RunEq.within h m (l + 1) (by omega) (by omega) w hw
      exact ⟨by omega, fun n hn => by have := b n hn; omega⟩
    | set n sm sg k => rw [h.set l _ _ _ _ hs]; exact step (l + 1) (by omega) (by omega)
    | els =>
      obtain ⟨t, _, h1, h2, h3⟩ := h.els l hs
      rw [h3]
      intro w hw
      obtain ⟨a, b⟩ := RunEq.within h m t (by omega) h2 w hw
      exact ⟨by omega, fun n hn => by have := b n hn; omega⟩
    | iff c =>
      obtain ⟨t, _, h1, h2, h3⟩ := h.iff l c hs
      rw [h3]
      intro w hw
      rcases List.mem_append.mp hw with z | z
      · exact step (l + 1) (by omega) (by omega) w z
      · exact step t h1 h2 w z
end K14

set_option Elab.async false
set_option linter.all false
set_option maxRecDepth 100000
set_option maxHeartbeats 8000000
/-! Block codes, l: a code made -/
namespace K14
open PySem L2
abbrev sBI : Stmt := inClass (top 55) 0
structure TxtK (K : PySem.W.Frag) (w : World) (mg : Str → Option Value) (C : Addr) : Prop where
  cl : Cls K C
  nK : NoAttr K C "kind"
  nR : NoAttr K C "rules"
  nT : NoAttr K C "text"
  nO : NoAttr K C "outline"
  nF : NoAttr K C "findings"
  mgC : mg "BlockCode" = some (.ref C)
  ml : ∃ t, mg "MOST_LINES" = some (.int 48 t)
  mi : ∃ t, mg "MOST_IFS" = some (.int 7 t)
  mo : ∃ d, mg "MOST" = some (.ref d) ∧ KInts K w d mostL
  dict : mg "dict" = none
def faultM (sts : List St) (w : List Nat) : Option Nat := aboveGo limM (wayMarks sts w) []
/-- the lines of foreign words -/
def forM (rows : List Str) (sts : List St) (kd : Str) (i : Nat) : Bool := foreignM (rows.getD i Str.empty) (sts.getD i .nd) kd
def foreignL (rows : List Str) (sts : List St) (kd : Str) (n : Nat) : List Nat := ((List.range n).filter (forM rows sts kd)).map (· + 1)
theorem foreignL_more (rows : List Str) (sts : List St) (kd : Str) (n : Nat) : foreignL rows sts kd (n + 1) = foreignL rows sts kd n ++ (if forM rows sts kd n = true then [n + 1] else []) := by
  unfold foreignL
  rw [List.range_succ, List.filter_append, List.map_append]
  congr 1
  rw [List.filter_cons, List.filter_nil]
  split <;> rfl
theorem foreignL_len (rows : List Str) (sts : List St) (kd : Str) (n : Nat) : (foreignL rows sts kd n).length ≤ n := by
  unfold foreignL
  rw [List.length_map]
  exact Nat.le_trans (List.length_filter_le _ _) (Nat.le_of_eq List.length_range)
/-- a line that must be refused -/
def badM (rows : List Str) (sts : List St) (kd : Str) (ws : List (List Nat)) (m : Nat) : Prop := m ∈ foreignL rows sts kd rows.length ∨ ∃ w ∈ ws, faultM sts w = some m
theorem kKR : ¬ (("kind" : Str) = "rules") := by decide +kernel
theorem kKT : ¬ (("kind" : Str) = "text") := by decide +kernel
theorem kKO : ¬ (("kind" : Str) = "outline") := by decide +kernel
def bFl (k : Str) (u : V) (t : Str) (o : Addr) : List (Str × V) := putF "outline" (.ref o) (putF "text" (.str t) (putF "rules" u (putF "kind" (.str k) [])))
theorem bFl_o (k : Str) (u : V) (t : Str) (o : Addr) : (bFl k u t o).lookup ("outline" : Str) = some (.ref o) := by
  unfold bFl
  rw [lookup_putF, if_pos rfl]
def spBI (K : PySem.W.Frag) (C CR : Addr) : Sp := fun vs H Q E => ∃ (p dx : Addr) (u : V) (x kd : Str) (rows : List Str) (sts : List St) (tg : List V) (R : Nat → List (List Nat)), vs = [.ref p, .str kd, u, .str x] ∧ H p = some (.ins C dx []) ∧ kd ∈ kindsL ∧ x.length + 2 ≤ sizeLine ∧ linesM x = rows ∧
  rows.length ≤ 48 ∧ (∀ r ∈ rows, RowOk r) ∧ readGo kd rows [] [] = some (sts, []) ∧ sts.countP isIf ≤ 7 ∧ tgM sts = some tg ∧ RunEq sts tg R ∧ (R 0).length ≤ 800 ∧
  ((∀ m, ¬ badM rows sts kd (R 0) m) → ∀ H', But p H H' → Q .non H') ∧
  (∀ m, badM rows sts kd (R 0) m → (∀ y, badM rows sts kd (R 0) y → m ≤ y) → ∀ d H', But p H H' → H d = none → H' d = some (.xd [("line", .int (m : Nat))]) → E (.ref CR) (some d) H')
section
variable {P : Program} {w : World} {K : PySem.W.Frag} {mg : Str → Option Value} {base : Heap}
abbrev nmBI : List Str := ["self", "kind", "rules", "text", "foreign", "above", "line", "way"]
theorem scBI : FnScope nmBI ["self", "kind", "rules", "text"] (defScope sBI) := ⟨rfl, rfl, rfl, by decide +kernel, rfl, by decide +kernel, by decide +kernel⟩
theorem ok_binit {f C CO CR fA fR fS fP fW fB fM fL fF fMt fSt : Addr} {fd fdA fdR fdW fdB fdL fdF fdMt fdSt : FuncData} (F : Fun K "__init__" "BlockCode.__init__" sBI f fd) (T : TxtN mg) (TC : TxtC K w mg) (TK : TxtK K w mg C) (O : TxtO K mg CO)
    (GA : FnOk P w K mg base CX0 1 fA fdA ["value", "words"] (spAmong K)) (kA : PySem.W.keepIn K (.ref fA) = true) (bA : Binds K fdA ["value", "words"] []) (gA : mg "is_among" = some (.ref fA))
    (GR : FnOk P w K mg base CX0 7 fR fdR ["text", "kind", "step_in", "part_in", "most_lines", "most_ifs", "loop_in"] (spOutl K CO fS fP)) (kR : PySem.W.keepIn K (.ref fR) = true) (bR : Binds K fdR ["text", "kind", "step_in", "part_in", "most_lines", "most_ifs", "loop_in"] dsR) (rR : Vals [V.non] dsR) (gR : mg "read_outline" = some (.ref fR))
    (gS : mg "block_step_in" = some (.ref fS)) (gP : mg "block_part_in" = some (.ref fP)) (gM : mg "marks_of" = some (.ref fM))
    (GW : FnOk P w K mg base CX0 2 fW fdW ["outline"] (spWays K CO)) (kW : PySem.W.keepIn K (.ref fW) = true) (bW : Binds K fdW ["outline"] []) (gW : mg "ways_through" = some (.ref fW))
    (GB : FnOk P w K mg base CX0 2 fB fdB ["outline", "way", "marks_of", "most"] (spAbove K CO fM)) (kB : PySem.W.keepIn K (.ref fB) = true) (bB : Binds K fdB ["outline", "way", "marks_of", "most"] []) (gB : mg "line_above" = some (.ref fB))
    (GL : FnOk P w K mg base (L2.CX P w) 1 fL fdL ["lines"] (spRefuse K CR)) (kL : PySem.W.keepIn K (.ref fL) = true) (bL : Binds K fdL ["lines"] []) (gL : mg "refuse_least" = some (.ref fL))
    (GF : FnOk P w K mg base CX0 1 fF fdF ["row", "step", "kind"] (spForeign K)) (kF : PySem.W.keepIn K (.ref fF) = true) (bF : Binds K fdF ["row", "step", "kind"] []) (gF : mg "is_foreign" = some (.ref fF))
    (GMt : FnOk P w K mg base CX0 1 fMt fdMt ["self"] (spMany K CO)) (mMt : Meth K CO "many_lines" fMt) (bMt : Binds K fdMt ["self"] [])
    (GSt : FnOk P w K mg base CX0 1 fSt fdSt ["self", "line"] (spStepAt K CO)) (mSt : Meth K CO "step_at" fSt) (bSt : Binds K fdSt ["self", "line"] []) :
    FnOk P w K mg base (L2.CX P w) 8 f fd ["self", "kind", "rules", "text"] (spBI K C CR) := by
  obtain ⟨cK, hcK, hCK⟩ := TC.bk
  obtain ⟨t1, hml⟩ := TK.ml
  obtain ⟨t2, hmi⟩ := TK.mi
  obtain ⟨cM, hcM, hCM⟩ := TK.mo
  refine F.okX scBI (fun vs H Q E h => ?_) (fun cdv A outer s H vs Q E hr h => ?_)
  · obtain ⟨p, dx, u, x, kd, rows, sts, tg, R, rfl, _⟩ := h
    rfl
  · obtain ⟨p, dx, u, x, kd, rows, sts, tg, R, rfl, hp, hkd, hx, hrows, hn, hrok, hgo, hif, htg, hR, hRl, kOk, kBad⟩ := h
    have hr1 : Room 1 _ := hr.mono (by decide)
    have hr2 : Room 2 _ := hr.mono (by decide)
    have hr7 : Room 7 _ := hr.mono (by decide)
    have hu := hu_of hr
    refine ⟨_, pss_cons (ps_if (pt_not (pt_val (pe_call GA hr1 rfl gA kA bA .nil pass0 (pa_cons (pv 1) (pa_cons (pe_glob (v := .ref cK) (by rfl) hcK rfl) pa_nil))))) (pss_one PS.ghost) pss_nil)
      (pss_cons (ps_fld (pv 0) (pv 1) rfl)
      (pss_cons (ps_fld (pv 0) (pv 2) rfl)
      (pss_cons (ps_fld (pv 0) (pv 3) rfl)
      (pss_cons (ps_fld (pv 0) (pe_call GR hr7 rfl gR kR bR rR pass0 (pa_cons (pv 3) (pa_cons (pv 1) (pa_cons (pe_glob (v := .ref fS) (by rfl) gS rfl) (pa_cons (pe_glob (v := .ref fP) (by rfl) gP rfl) (pa_cons (pe_glob (v := .int 48) (by rfl) hml ⟨t1, rfl⟩) (pa_cons (pe_glob (v := .int 7) (by rfl) hmi ⟨t2, rfl⟩) pa_nil))))))) rfl)
      (pss_cons (ps_setLc (i := 4) (own := [("line", 6)]) (g := gName 6) (tt := (tB (tCall (spForeign K) [] E0 (tCons (tOp (rIxT K) (tFld K (tFld K (tVar 0) "outline") "rows") (tOp (rI0 fun i j => .int (i - j)) (tVar 6) (tC (.int 1)))) (tCons (tMeth CO "step_at" (spStepAt K CO) [] E0 (tFld K (tVar 0) "outline") (tCons (tVar 6) tNil)) (tCons (tVar 1) tNil)))))) (te := tVar 6) rfl scBI.nd rfl rfl (sw_true rfl rfl rfl (by decide +kernel)) (by exact pi_range2 (by rfl) T.range (pa_cons pe_int (pa_cons (pe_op op_add (pe_meth0 (pe_fld (pv 0) rfl) O.cl mMt GMt hr1 bMt .nil pass0) pe_int) pa_nil))) (blkOk_by (own := [("line", 6)]) (N := nmBI) (sc := defScope sBI) (by decide +kernel)) (fun _ _ _ _ _ => pg_name (i := 6) scBI.nd rfl (Or.inl rfl))
        (fun _ _ _ _ _ => pts_one (pt_val (by exact (pe_call GF hr1 rfl gF kF bF .nil pass0 (by exact (pa_cons (pe_ix (show IxR _ (rIxT K) from ix_tup) (pe_fld (pe_fld (pv 0) rfl) rfl) (pe_op op_sub (pv 6) pe_int) (fun _ _ => rfl)) (pa_cons (pe_meth (pe_fld (pv 0) rfl) O.cl mSt GSt hr1 bSt .nil pass0 (pa_cons (pv 6) pa_nil)) (pa_cons (pv 1) pa_nil)))))))) (fun _ _ _ _ _ => pv 6))
      (pss_cons (ps_setLc (i := 5) (own := [("way", 7)]) (g := gName 7) (te := tCall (spAbove K CO fM) [] E0 (tCons (tFld K (tVar 0) "outline") (tCons (tVar 7) (tCons (tC (.ref fM)) (tCons (tCB (rDictK K w) (tCons (tC (.ref cM)) tNil)) tNil))))) rfl scBI.nd rfl rfl (sw_true rfl rfl rfl (by decide +kernel)) (by exact pi_list (pe_call GW hr2 rfl gW kW bW .nil pass0 (pa_cons (pe_fld (pv 0) rfl) pa_nil))) (blkOk_by (own := [("way", 7)]) (N := nmBI) (sc := defScope sBI) (by decide +kernel)) (fun _ _ _ _ _ => pg_name (i := 7) scBI.nd rfl (Or.inl rfl)) (fun _ _ _ _ _ => pts_nil)
          (fun _ _ _ _ _ => by exact (pe_call GB hr2 rfl gB kB bB .nil pass0 (by exact (pa_cons (pe_fld (pv 0) rfl) (pa_cons (pv 7) (pa_cons (pe_glob (v := .ref fM) (by rfl) gM rfl) (pa_cons (pe_callTy (show CallR _ _ (rDictK K w) from call_dictK) (by rfl) TK.dict (by decide +kernel) (pa_cons (pe_glob (v := .ref cM) (by rfl) hcM rfl) pa_nil)) pa_nil))))))))
      (pss_cons (ps_expr (pe_callS GL hr1 rfl gL kL bL (fun σ => passAt (takes_of rfl rfl rfl rfl) σ) (by exact (pa_cons (pe_op op_cat (pv 4) (pv 5)) pa_nil))))
      (pss_one (ps_fld (pv 0) pe_non rfl))))))))), ?_⟩
    have hsl : sts.length = rows.length := by
      have z := readGo_len _ _ _ hgo
      rw [z]
      exact Nat.zero_add _
    refine ⟨_, rfl, kd, cK, kindsL, rfl, hCK _, _, rfl, ?_⟩
    refine ifF3 (by rw [decide_eq_true hkd]; rfl) ?_
    refine nxt ?_
    dsimp only
    refine ⟨_, rfl, _, rfl, p, C, dx, [], rfl, hp, TK.cl, TK.nK, (by show 0 < 1000; decide), ?_⟩
    refine ⟨_, rfl, _, rfl, p, C, dx, _, rfl, upd_same, TK.cl, TK.nR, (by show 1 < 1000; decide), ?_⟩
    refine ⟨_, rfl, _, rfl, p, C, dx, _, rfl, upd_same, TK.cl, TK.nT, (by show 2 < 1000; decide), ?_⟩
    obtain ⟨fl, hfl⟩ : ∃ fl, fl = putF "text" (.str x) (putF "rules" u (putF "kind" (.str kd) [])) := ⟨_, rfl⟩
    have b2 : But p H (upd (upd (upd H p (.ins C dx (putF "kind" (.str kd) []))) p (.ins C dx (putF "rules" u (putF "kind" (.str kd) [])))) p (.ins C dx fl)) := (But.upd.trans But.upd).trans But.upd
    rw [← hfl]
    refine ⟨_, rfl, _, rfl, x, kd, 48, 7, rows, sts, tg, rfl, hkd, hx, hrows, by omega, by omega, hrok, hgo, by omega, htg, fun o xs G sG hO => ?_⟩
    have gp := sG _ _ (upd_same (a := p))
    have hop : o ≠ p := fun z => by
      obtain ⟨⟨dx', r1, r2, r3, eO, _⟩, _⟩ := hO
      rw [z] at eO
      have e := HO.ins.inj (Option.some.inj (gp.symm.trans eO))
      have e2 := congrArg (fun l : List (Str × V) => l.lookup ("rows" : Str)) e.2.2
      have z1 : fl.lookup ("rows" : Str) = none := by
        rw [hfl, lookup_putF, if_neg (by decide +kernel), lookup_putF, if_neg (by decide +kernel), lookup_putF, if_neg (by decide +kernel)]
        rfl
      have e3 : fl.lookup ("rows" : Str) = (oFl r1 r2 r3).lookup ("rows" : Str) := e2
      rw [z1, oFl_r] at e3
      cases e3
    refine ⟨_, rfl, p, C, dx, _, rfl, gp, TK.cl, TK.nO, (by rw [hfl]; show 3 < 1000; decide), ?_⟩
    obtain ⟨G1, hG1⟩ : ∃ G1, G1 = upd G p (.ins C dx (bFl kd u x o)) := ⟨_, rfl⟩
    have gp1 : G1 p = some (.ins C dx (bFl kd u x o)) := by
      rw [hG1]
      exact upd_same
    have bG : But p G G1 := by
      rw [hG1]
      exact But.upd
    have bH : But p H G1 := b2.trans ((But.same sG).trans bG)
    have hO1 : OutAt K CO G1 o rows xs sts tg := by
      obtain ⟨⟨dx', r1, r2, r3, eO, h1, h2, h3⟩, h4⟩ := hO
      have tk := bG.tk gp
      exact ⟨⟨dx', r1, r2, r3, bG _ _ eO hop, tk _ _ _ h1, tk _ _ _ h2, tk _ _ _ h3⟩, h4.keep tk⟩
    show tSeq _ _ _ _ (upd G p (.ins C dx (putF "outline" (.ref o) fl)))
    rw [show (upd G p (.ins C dx (putF "outline" (.ref o) fl))) = G1 by rw [hG1, hfl]; rfl]
    have hxl : xs.length = sts.length := by
      have z : ∀ {xs : List V} {sts : List St}, StsAt K G1 xs sts → xs.length = sts.length := fun h => Paired.length h
      exact z hO1.st
    obtain ⟨⟨dxo, r1, r2, r3, eO, hR1, hR2, hR3⟩, hSt⟩ := id hO1
    have h62 : (2 : Int) ^ 62 = 4611686018427387904 := by decide
    refine ⟨_, rfl, p, C, dx, _, _, rfl, gp1, TK.cl, TK.nO, bFl_o _ _ _ _, o, dxo, _, rfl, eO, oFl_no _ _ _ (by decide +kernel) (by decide +kernel) (by decide +kernel), o, rows, xs, sts, tg, rfl, hO1, _, _, rfl, rfl, 1, _, rfl, ⟨by decide, by decide, by omega, by omega⟩, fun D nD => ?_⟩
    rw [show (((xs.length : Nat) : Int) + 1 - 1).toNat = rows.length by omega]
    have sD := Same.new (o := .lst []) nD
    refine lc_range (fun i G2 => Same G1 G2 ∧ G2 D = some (.lst (intsV (foreignL rows sts kd i)))) ⟨sD, upd_same⟩ ?_ ?_
    · rintro i G2 hi ⟨s2, gD⟩
      rw [show ((1 : Int) + (i : Nat)) = ((i + 1 : Nat) : Int) by omega]
      refine ⟨rfl, ?_⟩
      have hxi : xs[i]? = some xs[i] := List.getElem?_eq_getElem (by omega)
      generalize xs[i] = v at hxi
      obtain ⟨st, hsti, hv, hok⟩ := Paired.get hSt hxi
      have hri : rows[i]? = some (rows.getD i Str.empty) := by
        rw [List.getD_eq_getElem?_getD, List.getElem?_eq_getElem hi]
        rfl
      have hfm : forM rows sts kd i = foreignM (rows.getD i Str.empty) st kd := by
        unfold forM
        rw [List.getD_eq_getElem?_getD (l := sts), hsti]
        rfl
      have hrl : (rows.getD i Str.empty).length + 2 ≤ sizeLine := by
        exact (hrok _ (List.mem_of_getElem? hri)).1
      refine ⟨_, rfl, p, C, dx, _, _, rfl, s2 _ _ gp1, TK.cl, TK.nO, bFl_o _ _ _ _, o, CO, dxo, _, _, rfl, s2 _ _ eO, O.cl, O.nR, oFl_r _ _ _, _, rfl, _, _, rfl, rfl, r1, _, ((i : Nat) : Int), .str (rows.getD i Str.empty), rfl, (by show V.int (((i + 1 : Nat) : Int) - 1) = _; congr 1; omega), seqT s2 hR1, atI_nat (j := i) (by rw [List.getElem?_map, hri]; rfl), ?_⟩
      refine ⟨_, rfl, p, C, dx, _, _, rfl, s2 _ _ gp1, TK.cl, TK.nO, bFl_o _ _ _ _, o, dxo, _, rfl, s2 _ _ eO, oFl_no _ _ _ (by decide +kernel) (by decide +kernel) (by decide +kernel), _, rfl, o, rows, xs, sts, tg, i, v, rfl, hO1.keep s2, hxi, ?_⟩
      refine ⟨_, rfl, rows.getD i Str.empty, kd, v, st, rfl, hv.keep (Same.tk s2), hrl, fun G3 s3 => ?_⟩
      refine ⟨_, rfl, ?_⟩
      have gD3 := s3 _ _ gD
      rw [foreignL_more, hfm]
      by_cases c : foreignM (rows.getD i Str.empty) st kd = true
      · rw [if_pos c]
        refine ifT3 c ?_
        refine ⟨_, rfl, _, gD3, small1000 (by unfold intsV; rw [List.length_map]; have := foreignL_len rows sts kd i; omega), Same.write (s2.trans s3) nD, ?_⟩
        rw [upd_same]
        unfold intsV
        rw [List.map_append]
        rfl
      · rw [if_neg c, List.append_nil]
        refine ifF3 (Bool.eq_false_iff.mpr c) ?_
        exact ⟨s2.trans s3, gD3⟩
    · rintro G2 ⟨s2, gD⟩
      have gp3 := s2 _ _ gp1
      have hO3 := hO1.keep s2
      have hmk := readGo_marks _ _ _ hgo (fun s hs => nomatch hs)
      refine ⟨_, rfl, p, C, dx, _, _, rfl, gp3, TK.cl, TK.nO, bFl_o _ _ _ _, o, rows, xs, sts, tg, R, rfl, hO3, by omega, hR, by omega, fun W as ws G4 s4 gW hWA hset hwl => ?_⟩
      have hal : as.length = ws.length := Paired.length hWA
      refine ⟨W, rfl, ⟨_, SqL.of gW⟩, fun B nB => ?_⟩
      have sB := Same.new (o := .lst []) nB
      refine lc_list (K := K) (a := W) (xs := as.map V.ref) (fun i G5 => Same G4 G5 ∧ G5 B = some (.lst ((ws.take i).map fun w => optN (faultM sts w)))) ⟨sB, upd_same⟩ (fun i G5 _ ⟨e, _⟩ => SqL.of (e _ _ gW)) ?_ ?_
      · rintro i y G5 hi ⟨s5, gB5⟩
        obtain ⟨aw, haw, rfl⟩ : ∃ aw, as[i]? = some aw ∧ y = V.ref aw := by
          rw [List.getElem?_map] at hi
          cases e : as[i]? with
          | none => rw [e] at hi; cases hi
          | some z => rw [e] at hi; exact ⟨z, rfl, (Option.some.inj hi).symm⟩
        obtain ⟨wy, hwy, gaw⟩ := Paired.get hWA haw
        have hwR : wy ∈ R 0 := (hset wy).mp (List.mem_of_getElem? hwy)
        obtain ⟨w1, w2⟩ := hR.within _ 0 (Nat.le_refl _) (Nat.zero_le _) wy hwR
        have hil := (List.getElem?_eq_some_iff.mp haw).1
        refine ⟨rfl, ?_⟩
        unfold tYes
        refine iteT ?_
        refine ⟨_, rfl, p, C, dx, _, _, rfl, s5 _ _ (s4 _ _ gp3), TK.cl, TK.nO, bFl_o _ _ _ _, _, rfl, cM, mostL, rfl, hCM, fun D2 nD2 => ?_⟩
        have sD2 := Same.new (o := .dK (mostL.map fun q => ((Sum.inr q.1 : Key), V.int q.2))) nD2
        refine ⟨o, aw, D2, rows, xs, sts, tg, wy, _, limM, rfl, hO3.keep (s4.trans (s5.trans sD2)), sD2 _ _ (s5 _ _ gaw), (fun n hn => by have := w2 n hn; omega), by omega, upd_same, (fun n hn m hm => ?_), fun G6 s6 => ?_⟩
        · refine most_lim m (hmk _ ?_ m hm)
          have := w2 n hn
          rw [List.getD_eq_getElem?_getD, List.getElem?_eq_getElem (by omega)]
          exact List.getElem_mem _
        · have := s6 _ _ (sD2 _ _ gB5)
          refine ⟨_, this, small1000 (by rw [List.length_map, List.length_take]; omega), Same.write (s5.trans (sD2.trans s6)) nB, ?_⟩
          rw [take_more hwy, List.map_append]
          exact upd_same
      · rintro G5 ⟨s5, gB5⟩
        rw [List.length_map, hal, List.take_length] at gB5
        have e1 : (ws.map fun w => optN (faultM sts w)) = (ws.map (faultM sts)).map optN := by
          rw [List.map_map]
          rfl
        rw [e1] at gB5
        have e2 : intsV (foreignL rows sts kd rows.length) = ((foreignL rows sts kd rows.length).map some).map optN := by
          unfold intsV
          rw [List.map_map]
          rfl
        have gD5 := s5 _ _ (s4 _ _ gD)
        rw [e2] at gD5
        have lD : (foreignL rows sts kd rows.length).length ≤ 48 := Nat.le_trans (foreignL_len _ _ _ _) hn
        refine ⟨_, rfl, _, rfl, D, B, _, _, rfl, rfl, gD5, gB5, Nat.le_of_lt (small1000 (by rw [List.length_map, List.length_map, List.length_map, List.length_map]; omega)), fun q nq => ?_⟩
        have sq := Same.new (o := .lst (((foreignL rows sts kd rows.length).map some).map optN ++ (ws.map (faultM sts)).map optN)) nq
        have hos : ∀ y, y ∈ ((foreignL rows sts kd rows.length).map some ++ ws.map (faultM sts)).filterMap id ↔ badM rows sts kd (R 0) y := fun y => by
          rw [List.filterMap_append, List.mem_append]
          refine or_congr ⟨fun h => ?_, fun h => ?_⟩ ⟨fun h => ?_, fun h => ?_⟩
          · obtain ⟨o, ho, e⟩ := List.mem_filterMap.mp h
            obtain ⟨z, hz, e2⟩ := List.mem_map.mp ho
            have e3 : o = some y := e
            rw [e3] at e2
            cases e2
            exact hz
          · exact List.mem_filterMap.mpr ⟨some y, List.mem_map.mpr ⟨y, h, rfl⟩, rfl⟩
          · obtain ⟨o, ho, e⟩ := List.mem_filterMap.mp h
            obtain ⟨w, hw, e2⟩ := List.mem_map.mp ho
            have e3 : o = some y := e
            exact ⟨w, (hset w).mp hw, by rw [e2, e3]⟩
          · obtain ⟨w, hw, e⟩ := h
            exact List.mem_filterMap.mpr ⟨some y, List.mem_map.mpr ⟨w, (hset w).mpr hw, e⟩, rfl⟩
        have sA : Same G1 _ := s2.trans (s4.trans (s5.trans sq))
        refine ⟨q, (foreignL rows sts kd rows.length).map some ++ ws.map (faultM sts), rfl, SqL.of (by rw [List.map_append]; exact upd_same), by rw [List.length_append, List.length_map, List.length_map]; omega, fun hnil G6 s6 => ?_, fun m hm hmin d G6 s6 hd gd => ?_⟩
        · refine ⟨_, rfl, p, C, dx, _, rfl, (sA.trans s6) _ _ gp1, TK.cl, TK.nF, (by show 4 < 1000; decide), ?_⟩
          refine kOk (fun m hb => ?_) _ ((bH.trans (But.same (sA.trans s6))).trans But.upd)
          have := (hos m).mpr hb
          rw [hnil] at this
          cases this
        · refine kBad m ((hos m).mp hm) (fun y hy => hmin y ((hos y).mpr hy)) d G6 (bH.trans (But.same (sA.trans s6))) ?_ gd
          cases e : H d with
          | none => rfl
          | some u =>
            by_cases z : d = p
            · rw [z] at hd
              rw [sA _ _ gp1] at hd
              cases hd
            · have := (bH.trans (But.same sA)) _ _ e z
              rw [hd] at this
              cases this
end
end K14

set_option Elab.async false
set_option linter.all false
set_option maxRecDepth 100000
set_option maxHeartbeats 8000000
/-! Texts as trees: lines, steps, targets, ways -/
namespace K14
open PySem L2
inductive Blk where
  | nil
  | leaf (s : Str) (r : Blk)
  | iff (t : Str) (a : Blk) (e : Bool) (b r : Blk)
namespace Blk
def lines : Blk → List Str
  | nil => []
  | leaf s r => s :: lines r
  | iff t a e b r => t :: (lines a ++ ((if e = true then ("else" : Str) :: lines b else []) ++ ("end" : Str) :: lines r))
def size : Blk → Nat
  | nil => 0
  | leaf _ r => size r + 1
  | iff _ a e b r => size a + (if e = true then size b + 1 else 0) + size r + 2
def ifs : Blk → Nat
  | nil => 0
  | leaf _ r => ifs r
  | iff _ a e b r => ifs a + (if e = true then ifs b else 0) + ifs r + 1
theorem size_lines : ∀ b : Blk, b.lines.length = b.size
  | nil => rfl
  | leaf s r => by
    show (lines r).length + 1 = _
    rw [size_lines r]
    rfl
  | iff t a e b r => by
    cases e with
    | true =>
      show (lines a ++ (("else" : Str) :: lines b ++ ("end" : Str) :: lines r)).length + 1 = size a + (size b + 1) + size r + 2
      rw [List.length_append, List.length_append, List.length_cons, List.length_cons, size_lines a, size_lines b, size_lines r]
      omega
    | false =>
      show (lines a ++ (("end" : Str) :: lines r)).length + 1 = size a + 0 + size r + 2
      rw [List.length_append, List.length_cons, size_lines a, size_lines r]
      omega
/-- what its lines do -/
def steps (f : Str → St) (g : Str → PyData) : Blk → List St
  | nil => []
  | leaf s r => f s :: steps f g r
  | iff t a e b r => .iff (g t) :: (steps f g a ++ ((if e = true then St.els :: steps f g b else []) ++ St.nd :: steps f g r))
theorem size_steps (f : Str → St) (g : Str → PyData) : ∀ b : Blk, (b.steps f g).length = b.size
  | nil => rfl
  | leaf s r => by
    show (steps f g r).length + 1 = _
    rw [size_steps f g r]
    rfl
  | iff t a e b r => by
    cases e with
    | true =>
      show (steps f g a ++ (St.els :: steps f g b ++ St.nd :: steps f g r)).length + 1 = size a + (size b + 1) + size r + 2
      rw [List.length_append, List.length_append, List.length_cons, List.length_cons, size_steps f g a, size_steps f g b, size_steps f g r]
      omega
    | false =>
      show (steps f g a ++ (St.nd :: steps f g r)).length + 1 = size a + 0 + size r + 2
      rw [List.length_append, List.length_cons, size_steps f g a, size_steps f g r]
      omega
/-- the place of the else (or of the end), the place of the end -/
def p1 (i : Nat) (a : Blk) : Nat := i + 1 + size a
def p2 (i : Nat) (a : Blk) (e : Bool) (b : Blk) : Nat := if e = true then p1 i a + 1 + size b else p1 i a
def setT : Blk → Nat → List V → List V
  | nil, _, tg => tg
  | leaf _ r, i, tg => setT r (i + 1) tg
  | iff _ a e b r, i, tg => setT r (p2 i a e b + 1) (if e = true then (setT b (p1 i a + 1) ((setT a (i + 1) tg).set i (.int ((p1 i a + 2 : Nat) : Int)))).set (p1 i a) (.int ((p2 i a e b + 2 : Nat) : Int)) else (setT a (i + 1) tg).set i (.int ((p2 i a e b + 2 : Nat) : Int)))
/-- leaves are no ifs, elses, ends -/
def Plain (f : Str → St) : Blk → Prop
  | nil => True
  | leaf s r => (∀ c, f s ≠ .iff c) ∧ f s ≠ .els ∧ f s ≠ .nd ∧ Plain f r
  | iff _ a e b r => Plain f a ∧ (e = true → Plain f b) ∧ Plain f r
theorem tg_steps (f : Str → St) (g : Str → PyData) : ∀ (b : Blk), Plain f b → ∀ (rest : List St) (i : Nat) (tg : List V) (wt : List Nat), tgGo (b.steps f g ++ rest) i tg wt = tgGo rest (i + b.size) (b.setT i tg) wt
  | nil, _, rest, i, tg, wt => rfl
  | leaf s r, hp, rest, i, tg, wt => by
    obtain ⟨h1, h2, h3, h4⟩ := hp
    have e : tgGo (f s :: (r.steps f g ++ rest)) i tg wt = tgGo (r.steps f g ++ rest) (i + 1) tg wt := by
      cases hs : f s with
      | fin x => rfl
      | set n sm sg k => rfl
      | iff c => exact absurd hs (h1 c)
      | els => exact absurd hs h2
      | nd => exact absurd hs h3
    show tgGo (f s :: (r.steps f g ++ rest)) i tg wt = tgGo rest (i + (r.size + 1)) (r.setT (i + 1) tg) wt
    rw [e, tg_steps f g r h4, show i + 1 + r.size = i + (r.size + 1) by omega]
  | iff t a e b r, hp, rest, i, tg, wt => by
    obtain ⟨h1, h2, h3⟩ := hp
    cases e with
    | true =>
      show tgGo (St.iff (g t) :: ((a.steps f g ++ (St.els :: b.steps f g ++ St.nd :: r.steps f g)) ++ rest)) i tg wt = _
      rw [List.append_assoc, List.append_assoc, List.cons_append]
      show tgGo (a.steps f g ++ (St.els :: (b.steps f g ++ (St.nd :: r.steps f g ++ rest)))) (i + 1) tg (wt ++ [i]) = _
      rw [tg_steps f g a h1]
      show (match (wt ++ [i]).getLast? with
        | none => none
        | some j => tgGo (b.steps f g ++ (St.nd :: r.steps f g ++ rest)) (i + 1 + a.size + 1) ((a.setT (i + 1) tg).set j (.int ((i + 1 + a.size + 2 : Nat) : Int))) ((wt ++ [i]).dropLast ++ [i + 1 + a.size])) = _
      rw [List.getLast?_concat, List.dropLast_concat]
      show tgGo (b.steps f g ++ (St.nd :: r.steps f g ++ rest)) (i + 1 + a.size + 1) ((a.setT (i + 1) tg).set i (.int ((i + 1 + a.size + 2 : Nat) : Int))) (wt ++ [i + 1 + a.size]) = _
      rw [tg_steps f g b (h2 rfl)]
      show (match (wt ++ [i + 1 + a.size]).getLast? with
        | none => none
        | some j => tgGo (r.steps f g ++ rest) (i + 1 + a.size + 1 + b.size + 1) ((b.setT (i + 1 + a.size + 1) ((a.setT (i + 1) tg).set i (.int ((i + 1 + a.size + 2 : Nat) : Int)))).set j (.int ((i + 1 + a.size + 1 + b.size + 2 : Nat) : Int))) (wt ++ [i + 1 + a.size]).dropLast) = _
      rw [List.getLast?_concat, List.dropLast_concat]
      show tgGo (r.steps f g ++ rest) (i + 1 + a.size + 1 + b.size + 1) _ wt = _
      rw [tg_steps f g r h3]
      have e1 : i + 1 + a.size + 1 + b.size + 1 + r.size = i + (iff t a true b r).size := by
        show _ = i + (a.size + (b.size + 1) + r.size + 2)
        omega
      rw [e1]
      rfl
    | false =>
      show tgGo (St.iff (g t) :: ((a.steps f g ++ (St.nd :: r.steps f g)) ++ rest)) i tg wt = _
      rw [List.append_assoc, List.cons_append]
      show tgGo (a.steps f g ++ (St.nd :: (r.steps f g ++ rest))) (i + 1) tg (wt ++ [i]) = _
      rw [tg_steps f g a h1]
      show (match (wt ++ [i]).getLast? with
        | none => none
        | some j => tgGo (r.steps f g ++ rest) (i + 1 + a.size + 1) ((a.setT (i + 1) tg).set j (.int ((i + 1 + a.size + 2 : Nat) : Int))) (wt ++ [i]).dropLast) = _
      rw [List.getLast?_concat, List.dropLast_concat]
      show tgGo (r.steps f g ++ rest) (i + 1 + a.size + 1) _ wt = _
      rw [tg_steps f g r h3]
      have e1 : i + 1 + a.size + 1 + r.size = i + (iff t a false b r).size := by
        show _ = i + (a.size + 0 + r.size + 2)
        omega
      rw [e1]
      rfl
theorem setT_len : ∀ (b : Blk) (i : Nat) (tg : List V), (b.setT i tg).length = tg.length
  | nil, _, _ => rfl
  | leaf s r, i, tg => setT_len r (i + 1) tg
  | iff t a e b r, i, tg => by
    cases e with
    | true =>
      show (setT r _ ((setT b _ ((setT a _ tg).set _ _)).set _ _)).length = _
      rw [setT_len r, List.length_set, setT_len b, List.length_set, setT_len a]
    | false =>
      show (setT r _ ((setT a _ tg).set _ _)).length = _
      rw [setT_len r, List.length_set, setT_len a]
theorem setT_out : ∀ (b : Blk) (i : Nat) (tg : List V) (l : Nat), l < i ∨ i + b.size ≤ l → (b.setT i tg)[l]? = tg[l]?
  | nil, _, _, _, _ => rfl
  | leaf s r, i, tg, l, h => setT_out r (i + 1) tg l (by
      have z : (leaf s r).size = r.size + 1 := rfl
      omega)
  | iff t a e b r, i, tg, l, h => by
    cases e with
    | true =>
      have z : (iff t a true b r).size = a.size + (b.size + 1) + r.size + 2 := rfl
      show (setT r (i + 1 + a.size + 1 + b.size + 1) ((setT b (i + 1 + a.size + 1) ((setT a (i + 1) tg).set i _)).set (i + 1 + a.size) _))[l]? = _
      rw [setT_out r _ _ l (by omega), List.getElem?_set_ne (by omega), setT_out b _ _ l (by omega), List.getElem?_set_ne (by omega), setT_out a _ _ l (by omega)]
    | false =>
      have z : (iff t a false b r).size = a.size + 0 + r.size + 2 := rfl
      show (setT r (i + 1 + a.size + 1) ((setT a (i + 1) tg).set i _))[l]? = _
      rw [setT_out r _ _ l (by omega), List.getElem?_set_ne (by omega), setT_out a _ _ l (by omega)]
/-- the targets in it are right -/
def TgOk : Blk → Nat → List V → Prop
  | nil, _, _ => True
  | leaf _ r, i, tg => TgOk r (i + 1) tg
  | iff _ a e b r, i, tg => tg[i]? = some (.int ((p1 i a + 2 : Nat) : Int)) ∧ (e = true → tg[p1 i a]? = some (.int ((p2 i a e b + 2 : Nat) : Int))) ∧ TgOk a (i + 1) tg ∧ (e = true → TgOk b (p1 i a + 1) tg) ∧ TgOk r (p2 i a e b + 1) tg
theorem TgOk.congr : ∀ (b : Blk) (i : Nat) (tg tg' : List V), (∀ l, i ≤ l → l < i + b.size → tg'[l]? = tg[l]?) → TgOk b i tg → TgOk b i tg'
  | nil, _, _, _, _, _ => trivial
  | leaf s r, i, tg, tg', h, k => TgOk.congr r (i + 1) tg tg' (fun l h1 h2 => h l (by omega) (by
      have z : (leaf s r).size = r.size + 1 := rfl
      omega)) k
  | iff t a e b r, i, tg, tg', h, ⟨k1, k2, k3, k4, k5⟩ => by
    cases e with
    | true =>
      have z : (iff t a true b r).size = a.size + (b.size + 1) + r.size + 2 := rfl
      refine ⟨by rw [h i (by omega) (by omega)]; exact k1, fun _ => by rw [h (p1 i a) (by unfold p1; omega) (by unfold p1; omega)]; exact k2 rfl, TgOk.congr a _ tg tg' (fun l h1 h2 => h l (by omega) (by omega)) k3, fun _ => TgOk.congr b _ tg tg' (fun l h1 h2 => h l (by unfold p1 at h1; omega) (by unfold p1 at h2; omega)) (k4 rfl), TgOk.congr r _ tg tg' (fun l h1 h2 => h l (by simp [p2, p1] at h1; omega) (by simp [p2, p1] at h2; omega)) k5⟩
    | false =>
      have z : (iff t a false b r).size = a.size + 0 + r.size + 2 := rfl
      refine ⟨by rw [h i (by omega) (by omega)]; exact k1, (fun z => nomatch z), TgOk.congr a _ tg tg' (fun l h1 h2 => h l (by omega) (by omega)) k3, (fun z => nomatch z), TgOk.congr r _ tg tg' (fun l h1 h2 => h l (by simp [p2, p1] at h1; omega) (by simp [p2, p1] at h2; omega)) k5⟩
theorem setT_ok : ∀ (b : Blk) (i : Nat) (tg : List V), i + b.size ≤ tg.length → TgOk b i (b.setT i tg)
  | nil, _, _, _ => trivial
  | leaf s r, i, tg, h => setT_ok r (i + 1) tg (by
      have z : (leaf s r).size = r.size + 1 := rfl
      omega)
  | iff t a e b r, i, tg, h => by
    cases e with
    | true =>
      have z : (iff t a true b r).size = a.size + (b.size + 1) + r.size + 2 := rfl
      have e1 : p1 i a = i + 1 + a.size := rfl
      have e2 : p2 i a true b = i + 1 + a.size + 1 + b.size := rfl
      have out : ∀ l, l < i + 1 + a.size + 1 + b.size + 1 → ((iff t a true b r).setT i tg)[l]? = ((setT b (p1 i a + 1) ((setT a (i + 1) tg).set i (.int ((p1 i a + 2 : Nat) : Int)))).set (p1 i a) (.int ((p2 i a true b + 2 : Nat) : Int)))[l]? := fun l hl => setT_out r _ _ l (.inl (by rw [e2]; omega))
      refine ⟨?_, fun _ => ?_, ?_, fun _ => ?_, ?_⟩
      · rw [out i (by omega), List.getElem?_set_ne (by omega), setT_out b _ _ i (by omega), List.getElem?_set_self (by rw [setT_len a]; omega)]
      · rw [out _ (by omega), List.getElem?_set_self (by rw [setT_len b, List.length_set, setT_len a]; omega)]
      · refine TgOk.congr a (i + 1) (setT a (i + 1) tg) _ (fun l h1 h2 => ?_) (setT_ok a (i + 1) tg (by omega))
        rw [out l (by omega), List.getElem?_set_ne (by omega), setT_out b _ _ l (by omega), List.getElem?_set_ne (by omega)]
      · refine TgOk.congr b (p1 i a + 1) (setT b (p1 i a + 1) ((setT a (i + 1) tg).set i (.int ((p1 i a + 2 : Nat) : Int)))) _ (fun l h1 h2 => ?_) (setT_ok b _ _ (by rw [List.length_set, setT_len a]; omega))
        rw [out l (by omega), List.getElem?_set_ne (by omega)]
      · exact setT_ok r _ _ (by rw [if_pos rfl, List.length_set, setT_len b, List.length_set, setT_len a, e2]; omega)
    | false =>
      have z : (iff t a false b r).size = a.size + 0 + r.size + 2 := rfl
      have e1 : p1 i a = i + 1 + a.size := rfl
      have e2 : p2 i a false b = i + 1 + a.size := rfl
      have out : ∀ l, l < i + 1 + a.size + 1 → ((iff t a false b r).setT i tg)[l]? = ((setT a (i + 1) tg).set i (.int ((p2 i a false b + 2 : Nat) : Int)))[l]? := fun l hl => setT_out r _ _ l (.inl (by rw [e2]; omega))
      refine ⟨?_, (fun z => nomatch z), ?_, (fun z => nomatch z), ?_⟩
      · rw [out i (by omega), List.getElem?_set_self (by rw [setT_len a]; omega)]
        rfl
      · refine TgOk.congr a (i + 1) (setT a (i + 1) tg) _ (fun l h1 h2 => ?_) (setT_ok a (i + 1) tg (by omega))
        rw [out l (by omega), List.getElem?_set_ne (by omega)]
      · exact setT_ok r _ _ (by rw [if_neg Bool.false_ne_true, List.length_set, setT_len a, e2]; omega)
end Blk
end K14

set_option Elab.async false
set_option linter.all false
set_option maxRecDepth 100000
set_option maxHeartbeats 8000000
/-! Texts as trees, b: the ways -/
namespace K14
open PySem L2
namespace Blk
def isFin : St → Bool
  | .fin _ => true
  | _ => false
/-- the ways through it, K what comes behind -/
def ways (f : Str → St) : Blk → Nat → List (List Nat) → List (List Nat)
  | nil, _, K => K
  | leaf s r, i, K => if isFin (f s) = true then [[i + 1]] else (ways f r (i + 1) K).map ((i + 1) :: ·)
  | iff _ a e b r, i, K => (ways f a (i + 1) (ways f r (p2 i a e b + 1) K)).map ((i + 1) :: ·) ++ (if e = true then ways f b (p1 i a + 1) (ways f r (p2 i a e b + 1) K) else ways f r (p2 i a e b + 1) K).map ((i + 1) :: ·)
/-- the ways from a place within on -/
def rAt (f : Str → St) : Blk → Nat → List (List Nat) → Nat → List (List Nat)
  | nil, _, K, _ => K
  | leaf s r, i, K, l => if l = i then ways f (leaf s r) i K else rAt f r (i + 1) K l
  | iff t a e b r, i, K, l => if l = i then ways f (iff t a e b r) i K else if l ≤ p1 i a then rAt f a (i + 1) (ways f r (p2 i a e b + 1) K) l else if l ≤ p2 i a e b then rAt f b (p1 i a + 1) (ways f r (p2 i a e b + 1) K) l else rAt f r (p2 i a e b + 1) K l
theorem rAt_head (f : Str → St) : ∀ (b : Blk) (i : Nat) (K : List (List Nat)), rAt f b i K i = ways f b i K
  | nil, _, _ => rfl
  | leaf s r, i, K => if_pos rfl
  | iff t a e b r, i, K => if_pos rfl
theorem rAt_end (f : Str → St) : ∀ (b : Blk) (i : Nat) (K : List (List Nat)), rAt f b i K (i + b.size) = K
  | nil, _, _ => rfl
  | leaf s r, i, K => by
    have z : (leaf s r).size = r.size + 1 := rfl
    have h := rAt_end f r (i + 1) K
    show (if i + (leaf s r).size = i then _ else rAt f r (i + 1) K (i + (leaf s r).size)) = K
    rw [if_neg (by omega), z, show i + (r.size + 1) = i + 1 + r.size by omega]
    exact h
  | iff t a e b r, i, K => by
    have h := rAt_end f r (p2 i a e b + 1) K
    have e2 : i + (iff t a e b r).size = p2 i a e b + 1 + r.size := by
      cases e with
      | true =>
        show i + (a.size + (b.size + 1) + r.size + 2) = i + 1 + a.size + 1 + b.size + 1 + r.size
        omega
      | false =>
        show i + (a.size + 0 + r.size + 2) = i + 1 + a.size + 1 + r.size
        omega
    have e3 : p1 i a ≤ p2 i a e b := by
      cases e with
      | true => show p1 i a ≤ p1 i a + 1 + b.size; omega
      | false => exact Nat.le_refl _
    have e4 : i < p1 i a := by unfold p1; omega
    show (if i + (iff t a e b r).size = i then _ else if i + (iff t a e b r).size ≤ p1 i a then _ else if i + (iff t a e b r).size ≤ p2 i a e b then _ else rAt f r (p2 i a e b + 1) K (i + (iff t a e b r).size)) = K
    rw [if_neg (by omega), if_neg (by omega), if_neg (by omega), e2]
    exact h
/-- what is asked of a place -/
structure EqAt (sts : List St) (tg : List V) (n : Nat) (R : Nat → List (List Nat)) (l : Nat) : Prop where
  els : sts[l]? = some .els → ∃ t : Nat, tg[l]? = some (.int ((t + 1 : Nat) : Int)) ∧ l < t ∧ t ≤ n ∧ R l = R t
  fin : ∀ x, sts[l]? = some (.fin x) → R l = [[l + 1]]
  nd : sts[l]? = some .nd → R l = R (l + 1)
  set : ∀ n sm sg k, sts[l]? = some (.set n sm sg k) → R l = (R (l + 1)).map ((l + 1) :: ·)
  iff : ∀ c, sts[l]? = some (.iff c) → ∃ t : Nat, tg[l]? = some (.int ((t + 1 : Nat) : Int)) ∧ l < t ∧ t ≤ n ∧ R l = (R (l + 1)).map ((l + 1) :: ·) ++ (R t).map ((l + 1) :: ·)
theorem eqs (f : Str → St) (g : Str → PyData) {sts : List St} {tg : List V} {n : Nat} {R : Nat → List (List Nat)} : ∀ (b : Blk) (i : Nat) (K : List (List Nat)), Plain f b → (∀ l, i ≤ l → l ≤ i + b.size → R l = rAt f b i K l) → (∀ j, j < b.size → sts[i + j]? = (b.steps f g)[j]?) → TgOk b i tg → i + b.size ≤ n →
    ∀ l, i ≤ l → l < i + b.size → EqAt sts tg n R l
  | nil, i, K, _, _, _, _, _, l, h1, h2 => by
    have z : nil.size = 0 := rfl
    omega
  | leaf s r, i, K, hp, hR, hs, ht, hn, l, h1, h2 => by
    have z : (leaf s r).size = r.size + 1 := rfl
    obtain ⟨q1, q2, q3, q4⟩ := hp
    have hr : ∀ l, i + 1 ≤ l → l ≤ i + 1 + r.size → R l = rAt f r (i + 1) K l := fun l a1 a2 => by
      rw [hR l (by omega) (by omega)]
      exact if_neg (by omega)
    by_cases hl : l = i
    · subst hl
      have est : sts[l]? = some (f s) := hs 0 (by omega)
      have eR : R l = if isFin (f s) = true then [[l + 1]] else (R (l + 1)).map ((l + 1) :: ·) := by
        rw [hR l (Nat.le_refl _) (by omega), hr (l + 1) (Nat.le_refl _) (by omega), rAt_head, rAt_head]
        rfl
      refine ⟨fun e => ?_, fun x e => ?_, fun e => ?_, fun n sm sg k e => ?_, fun c e => ?_⟩
      · rw [est] at e
        exact absurd (Option.some.inj e) q2
      · rw [est] at e
        rw [eR, Option.some.inj e]
        rfl
      · rw [est] at e
        exact absurd (Option.some.inj e) q3
      · rw [est] at e
        rw [eR, Option.some.inj e]
        rfl
      · rw [est] at e
        exact absurd (Option.some.inj e) (q1 c)
    · exact eqs f g r (i + 1) K q4 hr (fun j hj => by
        have := hs (j + 1) (by omega)
        rw [show i + (j + 1) = i + 1 + j by omega] at this
        exact this) ht (by omega) l (by omega) (by omega)
  | iff t a e b r, i, K, hp, hR, hs, ht, hn, l, h1, h2 => by
    obtain ⟨q1, q2, q3⟩ := hp
    obtain ⟨t1, t2, t3, t4, t5⟩ := ht
    have e1 : p1 i a = i + 1 + a.size := rfl
    have hlen : (iff t a e b r).size = p2 i a e b - i + 1 + r.size := by
      cases e with
      | true =>
        show a.size + (b.size + 1) + r.size + 2 = (i + 1 + a.size + 1 + b.size) - i + 1 + r.size
        omega
      | false =>
        show a.size + 0 + r.size + 2 = (i + 1 + a.size) - i + 1 + r.size
        omega
    have e3 : p1 i a ≤ p2 i a e b := by
      cases e with
      | true => show p1 i a ≤ p1 i a + 1 + b.size; omega
      | false => exact Nat.le_refl _
    obtain ⟨Kr, hKr⟩ : ∃ Kr, Kr = ways f r (p2 i a e b + 1) K := ⟨_, rfl⟩
    have hr : ∀ l, p2 i a e b + 1 ≤ l → l ≤ p2 i a e b + 1 + r.size → R l = rAt f r (p2 i a e b + 1) K l := fun l a1 a2 => by
      rw [hR l (by omega) (by omega)]
      show (if l = i then _ else if l ≤ p1 i a then _ else if l ≤ p2 i a e b then _ else rAt f r (p2 i a e b + 1) K l) = _
      rw [if_neg (by omega), if_neg (by omega), if_neg (by omega)]
    have ha : ∀ l, i + 1 ≤ l → l ≤ i + 1 + a.size → R l = rAt f a (i + 1) Kr l := fun l a1 a2 => by
      rw [hR l (by omega) (by omega), hKr]
      show (if l = i then _ else if l ≤ p1 i a then rAt f a (i + 1) (ways f r (p2 i a e b + 1) K) l else _) = _
      rw [if_neg (by omega), if_pos (by omega)]
    have hb : e = true → ∀ l, p1 i a + 1 ≤ l → l ≤ p1 i a + 1 + b.size → R l = rAt f b (p1 i a + 1) Kr l := fun he l a1 a2 => by
      have e2 : p2 i a e b = p1 i a + 1 + b.size := by rw [he]; rfl
      rw [hR l (by omega) (by omega), hKr]
      show (if l = i then _ else if l ≤ p1 i a then _ else if l ≤ p2 i a e b then rAt f b (p1 i a + 1) (ways f r (p2 i a e b + 1) K) l else _) = _
      rw [if_neg (by omega), if_neg (by omega), if_pos (by omega)]
    have Rr : R (p2 i a e b + 1) = Kr := by
      rw [hr _ (Nat.le_refl _) (by omega), rAt_head, hKr]
    have Ra : R (i + 1) = ways f a (i + 1) Kr := by
      rw [ha _ (Nat.le_refl _) (by omega), rAt_head]
    have Rae : R (p1 i a) = Kr := by
      rw [ha _ (by omega) (by omega)]
      exact rAt_end f a (i + 1) Kr
    have Ri : R i = (ways f a (i + 1) Kr).map ((i + 1) :: ·) ++ (if e = true then ways f b (p1 i a + 1) Kr else Kr).map ((i + 1) :: ·) := by
      rw [hR i (Nat.le_refl _) (by omega), rAt_head, hKr]
      rfl
    have st0 : sts[i]? = some (.iff (g t)) := hs 0 (by omega)
    have stA : ∀ j, j < a.size → sts[i + 1 + j]? = (a.steps f g)[j]? := fun j hj => by
      have h := hs (j + 1) (by omega)
      rw [show i + (j + 1) = i + 1 + j by omega] at h
      rw [h]
      show (a.steps f g ++ _)[j]? = _
      rw [List.getElem?_append_left (by rw [size_steps]; exact hj)]
    have hlast : ∀ (X : List St), (∀ j, p1 i a - i + j < (iff t a e b r).size → sts[p1 i a + j]? = X[j]?) → X = (if e = true then St.els :: b.steps f g else []) ++ St.nd :: r.steps f g → (e = true → sts[p1 i a]? = some .els ∧ (∀ j, j < b.size → sts[p1 i a + 1 + j]? = (b.steps f g)[j]?)) ∧ sts[p2 i a e b]? = some .nd ∧ (∀ j, j < r.size → sts[p2 i a e b + 1 + j]? = (r.steps f g)[j]?) := fun X hX eX => by
      cases e with
      | true =>
        have e2 : p2 i a true b = p1 i a + 1 + b.size := rfl
        have eX' : X = St.els :: (b.steps f g ++ St.nd :: r.steps f g) := eX
        refine ⟨fun _ => ⟨?_, fun j hj => ?_⟩, ?_, fun j hj => ?_⟩
        · rw [show p1 i a = p1 i a + 0 from rfl, hX 0 (by omega), eX']
          rfl
        · rw [show p1 i a + 1 + j = p1 i a + (j + 1) by omega, hX (j + 1) (by omega), eX', List.getElem?_cons_succ, List.getElem?_append_left (by rw [size_steps]; exact hj)]
        · rw [e2, show p1 i a + 1 + b.size = p1 i a + (b.size + 1) by omega, hX _ (by omega), eX', List.getElem?_cons_succ, List.getElem?_append_right (by rw [size_steps]; exact Nat.le_refl _), size_steps, Nat.sub_self]
          rfl
        · rw [e2, show p1 i a + 1 + b.size + 1 + j = p1 i a + (b.size + (j + 1) + 1) by omega, hX _ (by omega), eX', List.getElem?_cons_succ, List.getElem?_append_right (by rw [size_steps]; omega), size_steps, show b.size + (j + 1) - b.size = j + 1 by omega]
          rfl
      | false =>
        have e2 : p2 i a false b = p1 i a := rfl
        have eX' : X = St.nd :: r.steps f g := eX
        refine ⟨(fun z => nomatch z), ?_, fun j hj => ?_⟩
        · rw [e2, show p1 i a = p1 i a + 0 from rfl, hX 0 (by omega), eX']
          rfl
        · rw [e2, show p1 i a + 1 + j = p1 i a + (j + 1) by omega, hX _ (by omega), eX']
          rfl
    obtain ⟨sb, se, sr⟩ := hlast ((if e = true then St.els :: b.steps f g else []) ++ St.nd :: r.steps f g) (fun j hj => by
      have h := hs (p1 i a - i + j) (by omega)
      rw [show i + (p1 i a - i + j) = p1 i a + j by omega] at h
      rw [h, show p1 i a - i + j = (a.size + j) + 1 by omega]
      show (a.steps f g ++ _)[a.size + j]? = _
      rw [List.getElem?_append_right (by rw [size_steps]; omega), size_steps, show a.size + j - a.size = j by omega]) rfl
    by_cases c0 : l = i
    · subst c0
      refine ⟨fun z => ?_, fun x z => ?_, fun z => ?_, fun n sm sg k z => ?_, fun c z => ?_⟩
      · rw [st0] at z; cases z
      · rw [st0] at z; cases z
      · rw [st0] at z; cases z
      · rw [st0] at z; cases z
      · refine ⟨p1 l a + 1, t1, by omega, by omega, ?_⟩
        rw [Ri, Ra]
        congr 1
        cases e with
        | true =>
          have hb1 := hb rfl (p1 l a + 1) (Nat.le_refl _) (by omega)
          rw [hb1, rAt_head]
          rfl
        | false =>
          have : R (p1 l a + 1) = Kr := Rr
          rw [this]
          rfl
    by_cases c1 : l < p1 i a
    · exact eqs f g a (i + 1) Kr q1 ha stA t3 (by omega) l (by omega) (by omega)
    by_cases c2 : p2 i a e b < l
    · exact eqs f g r (p2 i a e b + 1) K q3 hr sr t5 (by omega) l (by omega) (by omega)
    have ndc : l = p2 i a e b → EqAt sts tg n R l := fun hl => by
      have est : sts[l]? = some .nd := by rw [hl]; exact se
      have Rl : R (p2 i a e b) = Kr := by
        cases e with
        | true =>
          rw [hb rfl _ (by show p1 i a + 1 ≤ p1 i a + 1 + b.size; omega) (by show p1 i a + 1 + b.size ≤ _; omega)]
          exact rAt_end f b (p1 i a + 1) Kr
        | false => exact Rae
      refine ⟨fun z => ?_, fun x z => ?_, fun z => ?_, fun n sm sg k z => ?_, fun c z => ?_⟩
      · rw [est] at z; cases z
      · rw [est] at z; cases z
      · rw [hl, Rl, Rr]
      · rw [est] at z; cases z
      · rw [est] at z; cases z
    by_cases c3 : l = p2 i a e b
    · exact ndc c3
    cases e with
    | false =>
      have e2 : p2 i a false b = p1 i a := rfl
      omega
    | true =>
      have e2 : p2 i a true b = p1 i a + 1 + b.size := rfl
      obtain ⟨s1, s2⟩ := sb rfl
      by_cases c4 : l = p1 i a
      · refine ⟨fun z => ⟨p2 i a true b + 1, ?_, by omega, by omega, ?_⟩, fun x z => ?_, fun z => ?_, fun n sm sg k z => ?_, fun c z => ?_⟩
        · rw [c4]; exact t2 rfl
        · rw [c4, Rae, Rr]
        all_goals
        · rw [c4, s1] at z
          cases z
      · exact eqs f g b (p1 i a + 1) Kr (q2 rfl) (hb rfl) s2 (t4 rfl) (by omega) l (by omega) (by omega)
/-- the whole text -/
def rAll (f : Str → St) (b : Blk) (l : Nat) : List (List Nat) := if l ≤ b.size then rAt f b 0 [[]] l else [[]]
theorem runEq (f : Str → St) (g : Str → PyData) (b : Blk) (hp : Plain f b) : RunEq (b.steps f g) (b.setT 0 (List.replicate b.size V.non)) (rAll f b) := by
  have hR : ∀ l, 0 ≤ l → l ≤ 0 + b.size → rAll f b l = rAt f b 0 [[]] l := fun l _ h => if_pos (by omega)
  have E := eqs f g (sts := b.steps f g) (tg := b.setT 0 (List.replicate b.size V.non)) (n := b.size) b 0 [[]] hp hR (fun j _ => by rw [Nat.zero_add]) (setT_ok b 0 _ (by rw [List.length_replicate]; omega)) (by omega)
  have inn : ∀ {l : Nat} {x : St}, (b.steps f g)[l]? = some x → l < 0 + b.size := fun {l x} h => by
    have := (List.getElem?_eq_some_iff.mp h).1
    rw [size_steps] at this
    omega
  refine ⟨fun l h => ?_, fun l h => ?_, fun l x h => (E l (Nat.zero_le _) (inn h)).fin x h, fun l h => (E l (Nat.zero_le _) (inn h)).nd h, fun l n sm sg k h => (E l (Nat.zero_le _) (inn h)).set n sm sg k h, fun l c h => ?_⟩
  · rw [size_steps] at h
    unfold rAll
    by_cases e : l ≤ b.size
    · rw [if_pos e]
      have e2 : l = 0 + b.size := by omega
      rw [e2]
      exact rAt_end f b 0 [[]]
    · rw [if_neg e]
  · rw [size_steps]
    exact (E l (Nat.zero_le _) (inn h)).els h
  · rw [size_steps]
    exact (E l (Nat.zero_le _) (inn h)).iff c h
theorem rAll_zero (f : Str → St) (b : Blk) : rAll f b 0 = ways f b 0 [[]] := by
  unfold rAll
  rw [if_pos (Nat.zero_le _)]
  exact rAt_head f b 0 [[]]
theorem tg_all (f : Str → St) (g : Str → PyData) (b : Blk) (hp : Plain f b) : tgM (b.steps f g) = some (b.setT 0 (List.replicate b.size V.non)) := by
  unfold tgM
  have h := tg_steps f g b hp [] 0 (List.replicate (b.steps f g).length V.non) []
  rw [List.append_nil] at h
  rw [h, size_steps]
  rfl
theorem ways_len (f : Str → St) : ∀ (b : Blk) (i : Nat) (K : List (List Nat)), 1 ≤ K.length → 1 ≤ (ways f b i K).length ∧ (ways f b i K).length ≤ 2 ^ b.ifs * K.length
  | nil, _, K, h => ⟨h, by show K.length ≤ 2 ^ 0 * K.length; omega⟩
  | leaf s r, i, K, h => by
    obtain ⟨h1, h2⟩ := ways_len f r (i + 1) K h
    show 1 ≤ (if isFin (f s) = true then [[i + 1]] else (ways f r (i + 1) K).map ((i + 1) :: ·)).length ∧ (if isFin (f s) = true then [[i + 1]] else (ways f r (i + 1) K).map ((i + 1) :: ·)).length ≤ 2 ^ r.ifs * K.length
    by_cases e : isFin (f s) = true
    · rw [if_pos e]
      exact ⟨Nat.le_refl _, by
        show 1 ≤ _
        omega⟩
    · rw [if_neg e, List.length_map]
      exact ⟨h1, h2⟩
  | iff t a e b r, i, K, h => by
    obtain ⟨h1, h2⟩ := ways_len f r (p2 i a e b + 1) K h
    obtain ⟨h3, h4⟩ := ways_len f a (i + 1) (ways f r (p2 i a e b + 1) K) h1
    obtain ⟨h5, h6⟩ := ways_len f b (p1 i a + 1) (ways f r (p2 i a e b + 1) K) h1
    have hm : ∀ x y : Nat, x ≤ y → ∀ z, 2 ^ x * z ≤ 2 ^ y * z := fun x y hxy z => Nat.mul_le_mul_right z (Nat.pow_le_pow_right (by decide) hxy)
    have key : ∀ X : List (List Nat), X.length ≤ 2 ^ (if e = true then b.ifs else 0) * (ways f r (p2 i a e b + 1) K).length → ((ways f a (i + 1) (ways f r (p2 i a e b + 1) K)).map ((i + 1) :: ·) ++ X.map ((i + 1) :: ·)).length ≤ 2 ^ (iff t a e b r).ifs * K.length := fun X hX => by
      rw [List.length_append, List.length_map, List.length_map]
      have hi : (iff t a e b r).ifs = a.ifs + (if e = true then b.ifs else 0) + r.ifs + 1 := rfl
      obtain ⟨u, hu⟩ : ∃ u, u = (if e = true then b.ifs else 0) := ⟨_, rfl⟩
      rw [← hu] at hX hi
      have a1 : (ways f a (i + 1) (ways f r (p2 i a e b + 1) K)).length ≤ 2 ^ (a.ifs + u) * (ways f r (p2 i a e b + 1) K).length := Nat.le_trans h4 (hm _ _ (by omega) _)
      have a2 : X.length ≤ 2 ^ (a.ifs + u) * (ways f r (p2 i a e b + 1) K).length := Nat.le_trans hX (hm _ _ (by omega) _)
      have a3 : 2 ^ (a.ifs + u) * (ways f r (p2 i a e b + 1) K).length ≤ 2 ^ (a.ifs + u) * (2 ^ r.ifs * K.length) := Nat.mul_le_mul_left _ h2
      have a4 : 2 ^ (iff t a e b r).ifs * K.length = 2 * (2 ^ (a.ifs + u) * (2 ^ r.ifs * K.length)) := by
        rw [hi, Nat.pow_succ, Nat.pow_add, ← Nat.mul_assoc (2 ^ (a.ifs + u)), Nat.mul_comm _ 2, Nat.mul_assoc 2]
      omega
    show 1 ≤ ((ways f a (i + 1) (ways f r (p2 i a e b + 1) K)).map ((i + 1) :: ·) ++ (if e = true then ways f b (p1 i a + 1) (ways f r (p2 i a e b + 1) K) else ways f r (p2 i a e b + 1) K).map ((i + 1) :: ·)).length ∧ _
    refine ⟨by rw [List.length_append, List.length_map]; omega, key _ ?_⟩
    cases e with
    | true => exact h6
    | false => show _ ≤ 2 ^ 0 * _; rw [Nat.pow_zero, Nat.one_mul]; exact Nat.le_refl _
end Blk
end K14

set_option Elab.async false
set_option linter.all false
set_option maxRecDepth 100000
set_option maxHeartbeats 4000000
/-! Part D: the law's draws -/
namespace K14D
open PySem L2
abbrev sBag : Stmt := K14.top 61
abbrev sDraw : Stmt := K14.top 62
/-! ### the bag -/
def bagL (c : Addr) (p q r z : Int) : List (Key × V) := [(.inr "cells", .ref c), (.inr "at", .int p), (.inr "digits", .int q), (.inr "count", .int r), (.inr "fold", .int z)]
section
variable (c : Addr) (p q r z y : Int)
theorem get_cells : valV (bagL c p q r z) (.inr "cells" : Key) = some (.ref c) := by kernel_rfl
theorem get_at : valV (bagL c p q r z) (.inr "at" : Key) = some (.int p) := by kernel_rfl
theorem get_digits : valV (bagL c p q r z) (.inr "digits" : Key) = some (.int q) := by kernel_rfl
theorem get_count : valV (bagL c p q r z) (.inr "count" : Key) = some (.int r) := by kernel_rfl
theorem get_fold : valV (bagL c p q r z) (.inr "fold" : Key) = some (.int z) := by kernel_rfl
theorem put_at : putK (bagL c p q r z) (.inr "at" : Key) (.int y) = bagL c y q r z := by kernel_rfl
theorem put_digits : putK (bagL c p q r z) (.inr "digits" : Key) (.int y) = bagL c p y r z := by kernel_rfl
theorem put_count : putK (bagL c p q r z) (.inr "count" : Key) (.int y) = bagL c p q y z := by kernel_rfl
theorem put_fold : putK (bagL c p q r z) (.inr "fold" : Key) (.int y) = bagL c p q r y := by kernel_rfl
theorem bag_new : mergeK [] (bagL c p q r z) = bagL c p q r z := by kernel_rfl
end
/-- a bag stands at b, behind at most m draws -/
structure Bag (H : Hp) (b : Addr) (m : Nat) (c : Addr) (ns : List Int) (p q r z : Int) : Prop where
  at_ : H b = some (.dK (bagL c p q r z))
  cs : H c = some (.lst (ns.map V.int))
  len : ns.length ≤ 63
  p0 : 0 ≤ p
  q0 : 0 ≤ q
  r0 : 0 ≤ r
  rm : r ≤ m
  z0 : 0 ≤ z
  z1 : z < 2147483648
section
variable {H : Hp} {b : Addr} {m : Nat} {c : Addr} {ns : List Int} {p q r z : Int}
theorem Bag.g_cells (B : Bag H b m c ns p q r z) : DGet H b (.str "cells") (some (.ref c)) := by
  rw [← get_cells c p q r z]
  exact DGet.k (k := .inr "cells") B.at_
theorem Bag.g_at (B : Bag H b m c ns p q r z) : DGet H b (.str "at") (some (.int p)) := by
  rw [← get_at c p q r z]
  exact DGet.k (k := .inr "at") B.at_
theorem Bag.g_digits (B : Bag H b m c ns p q r z) : DGet H b (.str "digits") (some (.int q)) := by
  rw [← get_digits c p q r z]
  exact DGet.k (k := .inr "digits") B.at_
theorem Bag.g_count (B : Bag H b m c ns p q r z) : DGet H b (.str "count") (some (.int r)) := by
  rw [← get_count c p q r z]
  exact DGet.k (k := .inr "count") B.at_
theorem Bag.g_fold (B : Bag H b m c ns p q r z) : DGet H b (.str "fold") (some (.int z)) := by
  rw [← get_fold c p q r z]
  exact DGet.k (k := .inr "fold") B.at_
theorem few5 : (bagL c p q r z).length < sizeLine := by
  show 5 < sizeLine
  decide
theorem Bag.p_at (B : Bag H b m c ns p q r z) (y : Int) : DPut H b (.str "at") (.int y) (upd H b (.dK (bagL c y q r z))) := by
  rw [← put_at c p q r z y]
  exact DPut.k (k := .inr "at") B.at_ few5
theorem Bag.p_digits (B : Bag H b m c ns p q r z) (y : Int) : DPut H b (.str "digits") (.int y) (upd H b (.dK (bagL c p y r z))) := by
  rw [← put_digits c p q r z y]
  exact DPut.k (k := .inr "digits") B.at_ few5
theorem Bag.p_count (B : Bag H b m c ns p q r z) (y : Int) : DPut H b (.str "count") (.int y) (upd H b (.dK (bagL c p q y z))) := by
  rw [← put_count c p q r z y]
  exact DPut.k (k := .inr "count") B.at_ few5
theorem Bag.p_fold (B : Bag H b m c ns p q r z) (y : Int) : DPut H b (.str "fold") (.int y) (upd H b (.dK (bagL c p q r y))) := by
  rw [← put_fold c p q r z y]
  exact DPut.k (k := .inr "fold") B.at_ few5
end
def BagAt (c : Addr) (H : Hp) (b : Addr) (m : Nat) : Prop := ∃ ns p q r z, Bag H b m c ns p q r z
theorem BagAt.keep {c : Addr} {H H' : Hp} {b : Addr} {m : Nat} (h : BagAt c H b m) (s : Same H H') : BagAt c H' b m := by
  obtain ⟨ns, p, q, r, z, B⟩ := h
  exact ⟨ns, p, q, r, z, s _ _ B.at_, s _ _ B.cs, B.len, B.p0, B.q0, B.r0, B.rm, B.z0, B.z1⟩
theorem bag_upd {H : Hp} {b c : Addr} {m m' : Nat} {ns : List Int} {p q r z p' q' r' z' : Int} (B : Bag H b m c ns p q r z) (hp : 0 ≤ p') (hq : 0 ≤ q') (hr : 0 ≤ r') (hm : r' ≤ m') (hz : 0 ≤ z') (hz1 : z' < 2147483648) :
    Bag (upd H b (.dK (bagL c p' q' r' z'))) b m' c ns p' q' r' z' :=
  ⟨upd_same, by rw [upd_ne (ne_of B.cs B.at_ (by intro z; cases z))]; exact B.cs, B.len, hp, hq, hr, hm, hz, hz1⟩
def spBag (K : PySem.W.Frag) : Sp := fun vs H Q _ => ∃ (a : Addr) (ns : List Int), vs = [.ref a] ∧ SqL K H a (ns.map V.int) ∧ ns.length ≤ 63 ∧ ∀ (b c : Addr) (H' : Hp), Same H H' → BagAt c H' b 0 → Q (.ref b) H'
/-- all but b is kept -/
def But (b : Addr) (H H' : Hp) : Prop := ∀ x o, H x = some o → x ≠ b → H' x = some o
theorem But.refl (b : Addr) (H : Hp) : But b H H := fun _ _ h _ => h
theorem But.trans {b : Addr} {H H1 H2 : Hp} (h1 : But b H H1) (h2 : But b H1 H2) : But b H H2 := fun x o h n => h2 x o (h1 x o h n) n
theorem But.upd {b : Addr} {H H1 : Hp} {o : HO} (h1 : But b H H1) : But b H (upd H1 b o) := fun x u h n => by rw [upd_ne n]; exact h1 x u h n
def spDraw : Sp := fun vs H Q _ => ∃ (b c : Addr) (lim : Int) (m : Nat), vs = [.ref b, .int lim] ∧ BagAt c H b m ∧ m ≤ 100000 ∧ 0 < lim ∧ lim ≤ 1000000000000000000000000000000 ∧
  ∀ (r : Int) (H' : Hp), 0 ≤ r → r < lim → BagAt c H' b (m + 1) → But b H H' → Q (.int r) H'
/-- the names that the module does not have -/
structure TxtB (mg : Str → Option Value) : Prop where
  len : mg "len" = none
  int : mg "int" = none
  list : mg "list" = none
  range : mg "range" = none
section
variable {P : Program} {w : World} {K : PySem.W.Frag} {mg : Str → Option Value} {base : Heap}
theorem scB : FnScope ["_law_script", "_law_fold", "_law_cell"] ["_law_script"] (defScope sBag) := ⟨rfl, rfl, rfl, by decide +kernel, rfl, by decide +kernel, by decide +kernel⟩
theorem ok_bag {f : Addr} {fd : FuncData} (F : Fun K "_law_bag" "_law_bag" sBag f fd) (T : TxtB mg) : FnOk P w K mg base CX0 1 f fd ["_law_script"] (spBag K) := by
  refine F.ok scB (fun vs H Q E h => ?_) (fun cdv A outer s H vs Q E hr h => ?_)
  · obtain ⟨a, ns, rfl, _⟩ := h
    rfl
  · obtain ⟨a, ns, rfl, hS, hlen, k⟩ := h
    have hu := hu_of hr
    refine ⟨_, pss_cons (ps_set (i := 1) scB.nd rfl (Or.inl rfl) pe_int)
      (pss_cons (ps_for PassesOwn.never rfl (pi_list (pv 0)) (pg_name (i := 2) scB.nd rfl (Or.inl rfl))
        (pss_one (ps_set (i := 1) scB.nd rfl (Or.inl rfl) (pe_op op_mod (pe_callTy call_int1 (by rfl) T.int (by decide +kernel) (pa_cons (pe_op op_add (pe_op op_mul (pv 1) pe_int) (pv 2)) pa_nil)) pe_int))))
      (pss_one (ps_ret (pe_disp (pps_cons pe_str (pe_callTy call_list_of (by rfl) T.list (by decide +kernel) (pa_cons (pv 0) pa_nil)) (pps_cons pe_str pe_int (pps_cons pe_str pe_int (pps_cons pe_str pe_int (pps_cons pe_str (pv 1) pps_nil))))) (by rfl) (by rfl) (fun z => by cases z) (by decide))))), ?_⟩
    refine ⟨_, rfl, a, rfl, ⟨_, hS⟩, for_list (K := K) (a := a) (xs := ns.map V.int) (fun i σ H2 => ∃ (z : Int) (v : Option V), σ = [some (.ref a), some (.int z), v] ∧ H2 = H ∧ 0 ≤ z ∧ z < 1000000007)
      ⟨0, none, rfl, rfl, by decide, by decide⟩ (fun i σ H2 _ ⟨_, _, _, e, _⟩ => by rw [e]; exact hS) ?_ ?_⟩
    · rintro i y σ H2 hi ⟨z, v, rfl, rfl, z0, z1⟩
      obtain ⟨n, rfl⟩ : ∃ n, y = V.int n := by
        rw [List.getElem?_map] at hi
        cases e : ns[i]? with
        | none => rw [e] at hi; cases hi
        | some n => rw [e] at hi; exact ⟨n, (Option.some.inj hi).symm⟩
      refine ⟨_, rfl, _, _, rfl, rfl, .inl ⟨by omega, by omega⟩, _, rfl, _, _, rfl, rfl, .inl ⟨_, rfl, _, _, rfl, rfl, (by show (0 : Int) < 1000000007; decide), ?_⟩⟩
      exact ⟨_, _, rfl, rfl, Int.emod_nonneg _ (by decide), Int.emod_lt_of_pos _ (by decide)⟩
    · rintro σ H2 ⟨z, v, rfl, rfl, z0, z1⟩
      intro p hp
      have s1 : Same H2 (upd H2 p (.dK [])) := fun b o e => by rw [upd_ne (ne_of_none e hp)]; exact e
      refine ⟨_, rfl, a, _, rfl, .inl (s1.seq hS), fun l hl => ?_⟩
      have npl : p ≠ l := fun e => by rw [e, upd_same] at hl; cases hl
      refine ⟨_, rfl, by rw [upd_ne npl]; exact upd_same, bagL l 0 0 0 z, rfl, by show 5 ≤ 15; decide, ?_⟩
      refine k p l _ (fun b o e => ?_) ⟨ns, 0, 0, 0, z, ?_, ?_, hlen, Int.le_refl _, Int.le_refl _, Int.le_refl _, Int.le_refl _, z0, by omega⟩
      · have bp := ne_of_none e hp
        have bl : b ≠ l := fun z => by rw [← z, upd_ne bp, e] at hl; cases hl
        rw [upd_ne bp, upd_ne bl, upd_ne bp]
        exact e
      · rw [bag_new]
        exact upd_same
      · rw [upd_ne npl.symm]
        exact upd_same
theorem scD : FnScope ["_law_bag_here", "_law_limit", "_law_cell", "_law_digit", "_law_base", "_law_found"] ["_law_bag_here", "_law_limit"] (defScope sDraw) := ⟨rfl, rfl, rfl, by decide +kernel, rfl, by decide +kernel, by decide +kernel⟩
theorem ok_draw {f : Addr} {fd : FuncData} (F : Fun K "_law_draw" "_law_draw" sDraw f fd) (T : TxtB mg) : FnOk P w K mg base CX0 1 f fd ["_law_bag_here", "_law_limit"] spDraw := by
  refine F.ok scD (fun vs H Q E h => ?_) (fun cdv A outer s H vs Q E hr h => ?_)
  · obtain ⟨b, c, lim, m, rfl, _⟩ := h
    rfl
  · obtain ⟨b, c, lim, m, rfl, hB, hm, h0, h1, k⟩ := h
    have hu := hu_of hr
    -- the end: a digit, or a number of the fold
    obtain ⟨t2, p2, r2⟩ : ∃ t2, PSs (cxOf CX0 P w K mg base ["_law_bag_here", "_law_limit", "_law_cell", "_law_digit", "_law_base", "_law_found"] "_law_draw" (defScope sDraw) f cdv A outer s H E).nox ((defBody sDraw).drop 2) t2 ∧
        ∀ (H1 : Hp) (v : Option V), BagAt c H1 b (m + 1) → But b H H1 → t2 { nx := fun _ H' => Q .non H', rt := Q } [some (.ref b), some (.int lim), v, none, none, none] H1 := by
      refine ⟨_, pss_cons (ps_if (pt_cmpR op_gt (pe_dget hu (pv 0) pe_str (fun _ _ => rfl)) pe_int (nomark _))
          (pss_cons (ps_set (i := 3) scD.nd rfl (Or.inl rfl) (pe_op op_mod (pe_callTy call_int1 (by rfl) T.int (by decide +kernel) (pa_cons (pe_dget hu (pv 0) pe_str (fun _ _ => rfl)) pa_nil)) (pv 1)))
          (pss_cons (ps_dput hu (pv 0) pe_str (pe_op op_fdivW (pe_dget hu (pv 0) pe_str (fun _ _ => rfl)) (pv 1)) rfl)
          (pss_one (ps_ret (pv 3))))) pss_nil)
        (pss_cons (ps_set (i := 4) scD.nd rfl (Or.inl rfl) (pe_op op_add (pe_op op_add (pe_dget hu (pv 0) pe_str (fun _ _ => rfl)) (pe_op op_mul (pe_dget hu (pv 0) pe_str (fun _ _ => rfl)) pe_int)) pe_int))
        (pss_cons (ps_set (i := 5) scD.nd rfl (Or.inl rfl) (pe_op op_fdiv (pe_callTy call_int1 (by rfl) T.int (by decide +kernel) (pa_cons (pe_op op_mod (pe_op op_pow (pv 4) pe_int) pe_int) pa_nil)) pe_int))
        (pss_one (ps_ret (pe_ifExp (pt_cmpR op_lt (pv 1) (pe_op op_pow pe_int pe_int) (nomark _)) (pe_op op_mod (pv 5) (pv 1)) (pe_op op_mod (pe_callTy call_int1 (by rfl) T.int (by decide +kernel) (pa_cons (pe_op op_pow (pv 5) pe_int) pa_nil)) (pv 1))))))), ?_⟩
      intro H1 v ⟨ns, p, q, r, z, B⟩ hk
      refine ⟨_, rfl, b, _, rfl, B.g_digits, _, _, rfl, rfl, _, rfl, ?_⟩
      refine ite2 (fun hq => ?_) (fun hq => ?_)
      · refine ⟨_, rfl, b, _, rfl, B.g_digits, .inl ⟨_, rfl, _, rfl, _, _, rfl, rfl, h0, ?_⟩⟩
        have hw : CDivW q lim := wide_div (b := 100) h0 (by
          have e : (2 : Nat) ^ 100 = 1267650600228229401496703205376 := by decide
          rw [e]
          omega) (by decide) (by decide)
        refine ⟨_, rfl, b, _, rfl, B.g_digits, _, rfl, q, lim, rfl, rfl, hw, _, rfl, b, _, rfl, B.p_digits _, _, rfl, ?_⟩
        exact k _ _ (Int.emod_nonneg _ (by omega)) (Int.emod_lt_of_pos _ h0) ⟨ns, _, _, _, _, bag_upd B B.p0 (Int.ediv_nonneg B.q0 (by omega)) B.r0 B.rm B.z0 B.z1⟩ hk.upd
      · refine ⟨_, rfl, b, _, rfl, B.g_fold, _, rfl, b, _, rfl, B.g_count, r, 7937, rfl, rfl, .inl ⟨by have := B.r0; omega, by have := B.rm; omega⟩, z, _, rfl, rfl, z + r * 7937, 67, rfl, rfl, ?_⟩
        have hb0 : 0 ≤ z + r * 7937 + 67 := by
          have := B.r0
          have := B.z0
          omega
        have hb1 : (z + r * 7937 + 67).natAbs < 2 ^ 64 := by
          have e : (2 : Nat) ^ 64 = 18446744073709551616 := by decide
          rw [e]
          have := B.rm
          have := B.r0
          have := B.z1
          omega
        have hl : ∀ x y : Int, 0 ≤ x % lim ∧ x % lim < lim := fun x _ => ⟨Int.emod_nonneg _ (by omega), Int.emod_lt_of_pos _ h0⟩
        refine ⟨_, rfl, _, 17, rfl, rfl, ⟨by decide, by decide, hb1⟩, _, _, rfl, rfl, (by show (0 : Int) < 2305843009213693951; decide), .inl ⟨_, rfl, _, 128, rfl, rfl, ⟨by decide, by decide⟩, ?_⟩⟩
        have f0 : 0 ≤ (z + r * 7937 + 67) ^ Int.toNat 17 % 2305843009213693951 / 128 := Int.ediv_nonneg (Int.emod_nonneg _ (by decide)) (by decide)
        have f1 : (z + r * 7937 + 67) ^ Int.toNat 17 % 2305843009213693951 / 128 < 18446744073709551616 := by
          have := Int.emod_lt_of_pos ((z + r * 7937 + 67) ^ Int.toNat 17) (show (0 : Int) < 2305843009213693951 by decide)
          omega
        have f2 : ((z + r * 7937 + 67) ^ Int.toNat 17 % 2305843009213693951 / 128).natAbs < 2 ^ 64 := by
          have e : (2 : Nat) ^ 64 = 18446744073709551616 := by decide
          rw [e]
          omega
        have B' : BagAt c H1 b (m + 1) := ⟨ns, p, q, r, z, B⟩
        refine ⟨_, rfl, 10, 15, rfl, rfl, ⟨by decide, by decide, by decide⟩, _, _, rfl, rfl, _, rfl, ?_⟩
        refine ite2 (fun _ => ?_) (fun _ => ?_)
        · exact ⟨_, rfl, _, rfl, _, _, rfl, rfl, h0, k _ _ (hl _ 0).1 (hl _ 0).2 B' hk⟩
        · exact ⟨_, rfl, _, 3, rfl, rfl, ⟨by decide, by decide, f2⟩, .inl ⟨_, rfl, _, rfl, _, _, rfl, rfl, h0, k _ _ (hl _ 0).1 (hl _ 0).2 B' hk⟩⟩
    refine ⟨_, pss_cons (ps_dput hu (pv 0) pe_str (pe_op op_add (pe_dget hu (pv 0) pe_str (fun _ _ => rfl)) pe_int) rfl)
      (pss_cons (ps_if (PW.pt (pw_and (pt_cmpR op_eq (pe_dget hu (pv 0) pe_str (fun _ _ => rfl)) pe_int (nomark _)) (pw_and1 (pt_cmpR op_lt (pe_dget hu (pv 0) pe_str (fun _ _ => rfl)) (pe_callB call_len_seq (by rfl) T.len PySem.boot_len (pa_cons (pe_dget hu (pv 0) pe_str (fun _ _ => rfl)) pa_nil)) (nomark _)))))
        (pss_cons (ps_set (i := 2) scD.nd rfl (Or.inl rfl) (pe_ix ix_list (pe_dget hu (pv 0) pe_str (fun _ _ => rfl)) (pe_dget hu (pv 0) pe_str (fun _ _ => rfl)) (fun _ _ => rfl)))
        (pss_cons (ps_dput hu (pv 0) pe_str (pe_op op_add (pe_dget hu (pv 0) pe_str (fun _ _ => rfl)) pe_int) rfl)
        (pss_one (ps_if (pt_cmpR op_ge (pv 2) (pe_op op_pow pe_int pe_int) (nomark _))
          (pss_one (ps_dput hu (pv 0) pe_str (pe_op op_sub (pv 2) (pe_op op_pow pe_int pe_int)) rfl))
          (pss_one (ps_dput hu (pv 0) pe_str (pe_op op_mod (pe_callTy call_int1 (by rfl) T.int (by decide +kernel) (pa_cons (pe_op op_add (pe_op op_mul (pe_dget hu (pv 0) pe_str (fun _ _ => rfl)) pe_int) (pv 2)) pa_nil)) pe_int) rfl))))))
        pss_nil) p2), ?_⟩
    obtain ⟨ns, p, q, r, z, B⟩ := hB
    refine ⟨_, rfl, b, _, rfl, B.g_count, r, 1, rfl, rfl, _, rfl, b, _, rfl, B.p_count _, ?_⟩
    have B1 : Bag (upd H b (.dK (bagL c p q (r + 1) z))) b (m + 1) c ns p q (r + 1) z := bag_upd B B.p0 B.q0 (by have := B.r0; omega) (by have := B.rm; omega) B.z0 B.z1
    have k1 : But b H (upd H b (.dK (bagL c p q (r + 1) z))) := (But.refl b H).upd
    refine ⟨_, rfl, b, _, rfl, B1.g_digits, rfl, _, rfl, ?_⟩
    refine ite2 (fun hq => ?_) (fun hq => ?_)
    · refine ⟨_, rfl, b, _, rfl, B1.g_at, _, rfl, b, _, rfl, B1.g_cells, c, _, rfl, .inl (SqL.of B1.cs), _, _, rfl, rfl, _, rfl, ?_⟩
      refine ite2 (fun hp => ?_) (fun hp => ?_)
      · have hp' : p < ((ns.map V.int).length : Int) := of_decide_eq_true hp
        rw [List.length_map] at hp'
        have hpn : p.toNat < ns.length := by have := B.p0; omega
        obtain ⟨cell, hcell⟩ : ∃ cell : Int, ns[p.toNat]? = some cell := ⟨_, List.getElem?_eq_getElem hpn⟩
        have hit : (ns.map V.int)[p.toNat]? = some (V.int cell) := by simp [hcell]
        have hat : atI (ns.map V.int) p = some (V.int cell) := by
          have e : p = (p.toNat : Int) := by have := B.p0; omega
          rw [e]
          exact atI_nat hit
        have B2 : Bag (upd (upd H b (.dK (bagL c p q (r + 1) z))) b (.dK (bagL c (p + 1) q (r + 1) z))) b (m + 1) c ns (p + 1) q (r + 1) z := bag_upd B1 (by have := B.p0; omega) B1.q0 B1.r0 B1.rm B1.z0 B1.z1
        refine ⟨_, rfl, b, _, rfl, B1.g_cells, _, rfl, b, _, rfl, B1.g_at, c, _, p, _, rfl, rfl, SqL.of B1.cs, hat, ?_⟩
        refine ⟨_, rfl, b, _, rfl, B1.g_at, p, 1, rfl, rfl, _, rfl, b, _, rfl, B1.p_at _, ?_⟩
        refine ⟨_, rfl, 10, 18, rfl, rfl, ⟨by decide, by decide, by decide⟩, _, _, rfl, rfl, _, rfl, ?_⟩
        refine ite2 (fun hc => ?_) (fun hc => ?_)
        · have hc' : (10 : Int) ^ Int.toNat 18 ≤ cell := of_decide_eq_true hc
          refine ⟨_, rfl, 10, 18, rfl, rfl, ⟨by decide, by decide, by decide⟩, _, _, rfl, rfl, _, rfl, b, _, rfl, B2.p_digits _, ?_⟩
          exact r2 _ _ ⟨ns, _, _, _, _, bag_upd B2 B2.p0 (by omega) B2.r0 B2.rm B2.z0 B2.z1⟩ k1.upd.upd
        · refine ⟨_, rfl, b, _, rfl, B2.g_fold, z, 69069, rfl, rfl, .inl ⟨by have := B.z0; omega, by have := B.z1; omega⟩, _, rfl, _, cell, rfl, rfl, .inl ⟨_, rfl, _, 2147483587, rfl, rfl, (by show (0 : Int) < 2147483587; decide), _, rfl, b, _, rfl, B2.p_fold _, ?_⟩⟩
          refine r2 _ _ ⟨ns, _, _, _, _, bag_upd B2 B2.p0 B2.q0 B2.r0 B2.rm (Int.emod_nonneg _ (by decide)) ?_⟩ k1.upd.upd
          have := Int.emod_lt_of_pos (z * 69069 + cell) (show (0 : Int) < 2147483587 by decide)
          omega
      · exact r2 _ none ⟨ns, p, q, _, z, B1⟩ k1
    · exact r2 _ none ⟨ns, p, q, _, z, B1⟩ k1
end
end K14D

set_option Elab.async false
set_option linter.all false
set_option maxRecDepth 100000
set_option maxHeartbeats 8000000
/-! k02, the program: a text with a wrong line refused -/
namespace K14
open PySem L2
/-- the number of the first row that is wrong, behind i rows -/
def badGo (kd : Str) : List Str → Nat → List Str → Option Nat
  | [], i, nest => if nest = [] then none else some (i + 1)
  | r :: rs, i, nest => match readS kd (Txt.split r " ") nest with
    | none => some (i + 1)
    | some (_, n2) => badGo kd rs (i + 1) n2
abbrev sBadI : Stmt := inClass (top 4) 0
/-- the facts of BadLine -/
structure TxtL (P : Program) (K : PySem.W.Frag) (mg : Str → Option Value) (CB fI cc cda : Addr) : Prop where
  g : mg "BadLine" = some (.ref CB)
  t : ErrA.ErrTxt P K CB fI cc cda "BadLine.__init__" sBadI
  b : ErrA.ErrBody P sBadI "line" []
  n : ∀ g ∈ [("line" : Str)], PySem.W.findIn K (.ref CB) g = some none
def spOutlBad (K : PySem.W.Frag) (CB fS fP : Addr) : Sp := fun vs H _ E => ∃ (x kd : Str) (ml mi : Int) (rows : List Str) (n : Nat), vs = [.str x, .str kd, .ref fS, .ref fP, .int ml, .int mi, .non] ∧ kd ∈ kindsL ∧ x.length + 2 ≤ sizeLine ∧ linesM x = rows ∧
  (rows.length : Int) ≤ ml ∧ rows.length ≤ 1000 ∧ (∀ r ∈ rows, RowOk r) ∧ badGo kd rows 0 [] = some n ∧
  ∀ d H', Same H H' → H d = none → H' d = some (.xd [("line", .int (n : Nat))]) → E (.ref CB) (some d) H'
section
variable {P : Program} {w : World} {K : PySem.W.Frag} {mg : Str → Option Value} {base : Heap}
theorem ok_outlBad {f fL fR fS fP CB fI cc cda : Addr} {fd fdL fdR : FuncData} (F : FunD K "read_outline" "read_outline" (defArgs sOutl) (defBody sOutl) (defScope sOutl) [.non] [] f fd) (T : TxtN mg) (R : TxtL P K mg CB fI cc cda)
    (GL : FnOk P w K mg base CX0 1 fL fdL ["text"] spLines) (kL : PySem.W.keepIn K (.ref fL) = true) (bL : Binds K fdL ["text"] []) (gL : mg "lines_of" = some (.ref fL))
    (GR : FnOk P w K mg base CX0 6 fR fdR ["words", "kind", "step_in", "part_in", "loop_in", "nest"] (spRead K fS fP)) (kR : PySem.W.keepIn K (.ref fR) = true) (bR : Binds K fdR ["words", "kind", "step_in", "part_in", "loop_in", "nest"] []) (gR : mg "read_line" = some (.ref fR)) :
    FnOk P w K mg base (L2.CX P w) 7 f fd ["text", "kind", "step_in", "part_in", "most_lines", "most_ifs", "loop_in"] (spOutlBad K CB fS fP) := by
  refine F.ok scOutl (fun vs H Q E h => ?_) (fun cdv A outer s H vs Q E hr h => ?_)
  · obtain ⟨x, kd, ml, mi, rows, n, rfl, _⟩ := h
    rfl
  · obtain ⟨x, kd, ml, mi, rows, n, rfl, hkd, hx, hrows, hml, hn, hok, hgo0, k⟩ := h
    have hr1 : Room 1 _ := hr.mono (by decide)
    have hr3 : Room 3 _ := hr.mono (by decide)
    have hr6 : Room 6 _ := hr.mono (by decide)
    refine ⟨_, pss_cons (ps_set (i := 7) scOutl.nd rfl (.inl rfl) (pe_call GL hr1 rfl gL kL bL .nil pass0 (pa_cons (pv 0) pa_nil)))
      (pss_cons (ps_if (pt_cmpR op_gt (pe_callB call_len_seq (by rfl) T.len PySem.boot_len (pa_cons (pv 7) pa_nil)) (pv 4) (nomark _)) (pss_one PS.ghost) pss_nil)
      (pss_cons (ps_set (i := 8) scOutl.nd rfl (.inl rfl) (pe_lst pa_nil))
      (pss_cons (ps_set (i := 9) scOutl.nd rfl (.inl rfl) (pe_lst pa_nil))
      (pss_cons (ps_for PassesOwn.leaving rfl (pi_list (pv 7)) (pg_name (i := 10) scOutl.nd rfl (Or.inl rfl))
        (pss_cons (ps_set (i := 11) scOutl.nd rfl (.inl rfl) (pe_call GR hr6 rfl gR kR bR .nil pass0 (pa_cons (pe_split (pv 10) pe_str) (pa_cons (pv 1) (pa_cons (pv 2) (pa_cons (pv 3) (pa_cons (pv 6) (pa_cons (pv 9) pa_nil))))))))
        (pss_cons (ps_if (pt_cmpR op_isN (pv 11) pe_non (nomark _)) (pss_one (ps_raiseErr rfl R.t R.b R.n hr1 R.g (takes_of rfl rfl rfl rfl) (pa_cons (pe_op op_add (pe_callB call_len_seq (by rfl) T.len PySem.boot_len (pa_cons (pv 8) pa_nil)) pe_int) pa_nil))) pss_nil)
        (pss_one (ps_expr (pe_bm PySem.F.plainAttrs_list PySem.F.slot_list_append PySem.F.type_list_append mt_append (pv 8) (pa_cons (pv 11) pa_nil)))))))
      (pss_cons (ps_if (pt_truth (pv 9) (by intro _; rfl)) (pss_one (ps_raiseErr rfl R.t R.b R.n hr1 R.g (takes_of rfl rfl rfl rfl) (pa_cons (pe_op op_add (pe_callB call_len_seq (by rfl) T.len PySem.boot_len (pa_cons (pv 8) pa_nil)) pe_int) pa_nil))) pss_nil)
      PSs.ghost))))), ?_⟩
    refine ⟨_, rfl, x, rfl, hx, fun R0 H1 s1 hR => ?_⟩
    rw [hrows] at hR
    refine ⟨_, rfl, R0, _, rfl, .inl (SqL.of hR), _, rfl, _, _, rfl, rfl, _, rfl, ?_⟩
    refine ifF3 (decide_eq_false (by rw [List.length_map]; omega)) ?_
    refine ⟨(by show 0 ≤ sizeLine; decide), fun S0 nS => ?_⟩
    have s2 := s1.trans (Same.new (o := .lst []) nS)
    refine ⟨(by show 0 ≤ sizeLine; decide), fun N0 nN => ?_⟩
    have s3 := s2.trans (Same.new (o := .lst []) nN)
    have HS : H S0 = none := none_of s1 nS
    have HN : H N0 = none := none_of s2 nN
    have SN : S0 ≠ N0 := ne_of_none upd_same nN
    have RS : R0 ≠ S0 := ne_of_none hR nS
    have hR3 : (upd (upd H1 S0 (.lst [])) N0 (.lst [])) R0 = some (.lst (rows.map V.str)) := Same.new nN _ _ (Same.new nS _ _ hR)
    have RN : R0 ≠ N0 := ne_of_none (Same.new nS _ _ hR) nN
    refine ⟨_, rfl, R0, rfl, ⟨_, SqL.of hR3⟩, for_list (K := K) (a := R0) (xs := rows.map V.str) (fun i σ G => ∃ nest ys v9 v10, σ = [some (.str x), some (.str kd), some (.ref fS), some (.ref fP), some (.int ml), some (.int mi), some .non, some (.ref R0), some (.ref S0), some (.ref N0), v9, v10, none] ∧
      Same H G ∧ G R0 = some (.lst (rows.map V.str)) ∧ G S0 = some (.lst ys) ∧ G N0 = some (.lst (nest.map V.str)) ∧ ys.length = i ∧ nest.length ≤ i ∧ NoWh nest ∧ badGo kd (rows.drop i) i nest = some n)
      ⟨[], [], none, none, rfl, s3, hR3, by rw [upd_ne SN]; exact upd_same, upd_same, rfl, Nat.le_refl _, NoWh.nil, hgo0⟩ (fun i σ G _ ⟨_, _, _, _, _, _, e, _⟩ => SqL.of e) ?_ ?_⟩
    · rintro i y σ G hi ⟨nest, ys, v9, v10, rfl, hG, gR', gS, gN, hyl, hnl, hnw, hgo⟩
      obtain ⟨r, hri, rfl⟩ : ∃ r, rows[i]? = some r ∧ y = V.str r := by
        rw [List.getElem?_map] at hi
        cases e : rows[i]? with
        | none => rw [e] at hi; cases hi
        | some x => rw [e] at hi; exact ⟨x, rfl, (Option.some.inj hi).symm⟩
      obtain ⟨q1, q2, q3, q4⟩ := hok r (List.mem_of_getElem? hri)
      have hil : i < rows.length := (List.getElem?_eq_some_iff.mp hri).1
      rw [drop_cons hri] at hgo
      refine ⟨_, rfl, ⟨_, rfl⟩, r, _, rfl, rfl, rfl, q1, fun a na => ?_⟩
      have sa := Same.new (o := .lst ((Txt.split r " ").map V.str)) na
      refine ⟨_, rfl, _, rfl, _, rfl, _, rfl, _, rfl, a, N0, Txt.split r " ", nest, kd, rfl, hnw, hkd, SqL.of upd_same, q2, q3, q4, sa _ _ gN, by omega, fun v G2 nest' b2 g2 res => ?_⟩
      have bG : But N0 G G2 := But.trans (But.same sa) b2
      have hG2 : Same H G2 := But.fresh hG bG HN
      have gR2 := bG _ _ gR' RN
      have gS2 := bG _ _ gS SN
      refine ⟨_, rfl, rfl, _, rfl, ?_⟩
      have hgo2 : (match readS kd (Txt.split r " ") nest with
          | none => some (i + 1)
          | some (_, n2) => badGo kd (rows.drop (i + 1)) (i + 1) n2) = some n := hgo
      cases o : readS kd (Txt.split r " ") nest with
      | none =>
        rw [o] at hgo2 res
        have en : i + 1 = n := Option.some.inj hgo2
        refine ifT3 (decide_eq_true res) ?_
        refine ⟨_, rfl, S0, _, rfl, .inl (SqL.of gS2), _, _, rfl, rfl, rfl, fun d nd => ?_⟩
        refine k d _ (hG2.trans (Same.new nd)) (none_of hG2 nd) ?_
        rw [upd_same, hyl, ← en]
        rfl
      | some pr =>
      obtain ⟨st, n2⟩ := pr
      rw [o] at hgo2 res
      obtain ⟨e1, e2, e3⟩ := res
      subst e1
      refine ifF3 (decide_eq_false e2) ?_
      refine ⟨_, rfl, .inl ⟨rfl, _, SqL.of gS2⟩, _, rfl, S0, _, _, rfl, rfl, gS2, small1000 (by omega), ?_⟩
      refine ⟨nest', ys ++ [v], _, _, rfl, Same.write hG2 HS, by rw [upd_ne RS]; exact gR2, upd_same, by rw [upd_ne SN.symm]; exact g2, by rw [List.length_append, hyl]; rfl, ?_, read_noWh o hnw, hgo2⟩
      have := readS_len o
      omega
    · rintro σ G ⟨nest, ys, v9, v10, rfl, hG, gR', gS, gN, hyl, hnl, hnw, hgo⟩
      rw [List.drop_of_length_le (by rw [List.length_map]; exact Nat.le_refl _)] at hgo
      rw [List.length_map] at hyl hgo
      cases nest with
      | nil =>
        have hgo2 : (none : Option Nat) = some n := hgo
        cases hgo2
      | cons n0 rest =>
        have en : rows.length + 1 = n := Option.some.inj hgo
        refine ⟨_, rfl, true, .inl ⟨_, SqL.of gN, rfl⟩, ?_⟩
        refine iteT ?_
        refine ⟨_, rfl, S0, _, rfl, .inl (SqL.of gS), _, _, rfl, rfl, rfl, fun d nd => ?_⟩
        refine k d _ (hG.trans (Same.new nd)) (none_of hG nd) ?_
        rw [upd_same, hyl, ← en]
        rfl
end
end K14

set_option Elab.async false
set_option linter.all false
set_option maxRecDepth 100000
set_option maxHeartbeats 8000000
/-! k13: texts with too many lines, with too many ifs refused -/
namespace K14
open PySem L2
abbrev sManyI : Stmt := inClass (top 6) 0
def manyF : List Str := ["what", "many", "most"]
/-- the facts of TooMany -/
structure TxtM (P : Program) (K : PySem.W.Frag) (mg : Str → Option Value) (CT fI cc cda : Addr) : Prop where
  g : mg "TooMany" = some (.ref CT)
  t : ErrA.ErrTxt P K CT fI cc cda "TooMany.__init__" sManyI
  b : ErrA.ErrBody P sManyI "what" ["many", "most"]
  n : ∀ g ∈ [("what" : Str), "many", "most"], PySem.W.findIn K (.ref CT) g = some none
def Rm (H : Hp) (CT : Addr) (wh : Str) (many most : Int) (E : XK) : Prop := ∀ d H', Same H H' → H d = none → H' d = some (.xd [("most", .int most), ("many", .int many), ("what", .str wh)]) → E (.ref CT) (some d) H'
def spOutlIfs (K : PySem.W.Frag) (CT fS fP : Addr) : Sp := fun vs H _ E => ∃ (x kd : Str) (ml mi : Int) (rows : List Str) (sts : List St), vs = [.str x, .str kd, .ref fS, .ref fP, .int ml, .int mi, .non] ∧ kd ∈ kindsL ∧ x.length + 2 ≤ sizeLine ∧ linesM x = rows ∧
  (rows.length : Int) ≤ ml ∧ rows.length ≤ 1000 ∧ (∀ r ∈ rows, RowOk r) ∧ readGo kd rows [] [] = some (sts, []) ∧ mi < ((sts.countP isIf : Nat) : Int) ∧ Rm H CT "ifs" ((sts.countP isIf : Nat) : Int) mi E
def spOutlLong (K : PySem.W.Frag) (CT fS fP : Addr) : Sp := fun vs H _ E => ∃ (x : Str) (k : V) (ml mi : Int) (rows : List Str), vs = [.str x, k, .ref fS, .ref fP, .int ml, .int mi, .non] ∧ x.length + 2 ≤ sizeLine ∧ linesM x = rows ∧ ml < (rows.length : Int) ∧ Rm H CT "lines" (rows.length : Nat) ml E
section
variable {P : Program} {w : World} {K : PySem.W.Frag} {mg : Str → Option Value} {base : Heap}
theorem ok_outlLong {f fL fS fP CT fI cc cda : Addr} {fd fdL : FuncData} (F : FunD K "read_outline" "read_outline" (defArgs sOutl) (defBody sOutl) (defScope sOutl) [.non] [] f fd) (T : TxtN mg) (R : TxtM P K mg CT fI cc cda)
    (GL : FnOk P w K mg base CX0 1 fL fdL ["text"] spLines) (kL : PySem.W.keepIn K (.ref fL) = true) (bL : Binds K fdL ["text"] []) (gL : mg "lines_of" = some (.ref fL)) :
    FnOk P w K mg base (L2.CX P w) 7 f fd ["text", "kind", "step_in", "part_in", "most_lines", "most_ifs", "loop_in"] (spOutlLong K CT fS fP) := by
  refine F.ok scOutl (fun vs H Q E h => ?_) (fun cdv A outer s H vs Q E hr h => ?_)
  · obtain ⟨x, kd, ml, mi, rows, rfl, _⟩ := h
    rfl
  · obtain ⟨x, kd, ml, mi, rows, rfl, hx, hrows, hml, k⟩ := h
    have hr1 : Room 1 _ := hr.mono (by decide)
    refine ⟨_, pss_cons (ps_set (i := 7) scOutl.nd rfl (.inl rfl) (pe_call GL hr1 rfl gL kL bL .nil pass0 (pa_cons (pv 0) pa_nil)))
      (pss_cons (ps_if (pt_cmpR op_gt (pe_callB call_len_seq (by rfl) T.len PySem.boot_len (pa_cons (pv 7) pa_nil)) (pv 4) (nomark _)) (pss_one (ps_raiseErr rfl R.t R.b R.n hr1 R.g (takes_of rfl rfl rfl rfl) (pa_cons pe_str (pa_cons (pe_callB call_len_seq (by rfl) T.len PySem.boot_len (pa_cons (pv 7) pa_nil)) (pa_cons (pv 4) pa_nil))))) pss_nil)
      PSs.ghost), ?_⟩
    refine ⟨_, rfl, x, rfl, hx, fun R0 H1 s1 hR => ?_⟩
    rw [hrows] at hR
    refine ⟨_, rfl, R0, _, rfl, .inl (SqL.of hR), _, rfl, _, _, rfl, rfl, _, rfl, ?_⟩
    refine ifT3 (decide_eq_true (by rw [List.length_map]; omega)) ?_
    refine ⟨_, rfl, R0, _, rfl, .inl (SqL.of hR), _, rfl, rfl, fun d nd => ?_⟩
    rw [List.length_map]
    exact k d _ (s1.trans (Same.new nd)) (none_of s1 nd) upd_same
theorem ok_outlIfs {f fL fR fS fP CT fI cc cda : Addr} {fd fdL fdR : FuncData} (F : FunD K "read_outline" "read_outline" (defArgs sOutl) (defBody sOutl) (defScope sOutl) [.non] [] f fd) (T : TxtN mg) (R : TxtM P K mg CT fI cc cda)
    (GL : FnOk P w K mg base CX0 1 fL fdL ["text"] spLines) (kL : PySem.W.keepIn K (.ref fL) = true) (bL : Binds K fdL ["text"] []) (gL : mg "lines_of" = some (.ref fL))
    (GR : FnOk P w K mg base CX0 6 fR fdR ["words", "kind", "step_in", "part_in", "loop_in", "nest"] (spRead K fS fP)) (kR : PySem.W.keepIn K (.ref fR) = true) (bR : Binds K fdR ["words", "kind", "step_in", "part_in", "loop_in", "nest"] []) (gR : mg "read_line" = some (.ref fR))
    :
    FnOk P w K mg base (L2.CX P w) 7 f fd ["text", "kind", "step_in", "part_in", "most_lines", "most_ifs", "loop_in"] (spOutlIfs K CT fS fP) := by
  refine F.ok scOutl (fun vs H Q E h => ?_) (fun cdv A outer s H vs Q E hr h => ?_)
  · obtain ⟨x, kd, ml, mi, rows, sts, rfl, _⟩ := h
    rfl
  · obtain ⟨x, kd, ml, mi, rows, sts, rfl, hkd, hx, hrows, hml, hn, hok, hgo0, hmi, k⟩ := h
    have hr1 : Room 1 _ := hr.mono (by decide)
    have hr3 : Room 3 _ := hr.mono (by decide)
    have hr6 : Room 6 _ := hr.mono (by decide)
    refine ⟨_, pss_cons (ps_set (i := 7) scOutl.nd rfl (.inl rfl) (pe_call GL hr1 rfl gL kL bL .nil pass0 (pa_cons (pv 0) pa_nil)))
      (pss_cons (ps_if (pt_cmpR op_gt (pe_callB call_len_seq (by rfl) T.len PySem.boot_len (pa_cons (pv 7) pa_nil)) (pv 4) (nomark _)) (pss_one PS.ghost) pss_nil)
      (pss_cons (ps_set (i := 8) scOutl.nd rfl (.inl rfl) (pe_lst pa_nil))
      (pss_cons (ps_set (i := 9) scOutl.nd rfl (.inl rfl) (pe_lst pa_nil))
      (pss_cons (ps_for PassesOwn.leaving rfl (pi_list (pv 7)) (pg_name (i := 10) scOutl.nd rfl (Or.inl rfl))
        (pss_cons (ps_set (i := 11) scOutl.nd rfl (.inl rfl) (pe_call GR hr6 rfl gR kR bR .nil pass0 (pa_cons (pe_split (pv 10) pe_str) (pa_cons (pv 1) (pa_cons (pv 2) (pa_cons (pv 3) (pa_cons (pv 6) (pa_cons (pv 9) pa_nil))))))))
        (pss_cons (ps_if (pt_cmpR op_isN (pv 11) pe_non (nomark _)) (pss_one PS.ghost) pss_nil)
        (pss_one (ps_expr (pe_bm PySem.F.plainAttrs_list PySem.F.slot_list_append PySem.F.type_list_append mt_append (pv 8) (pa_cons (pv 11) pa_nil)))))))
      (pss_cons (ps_if (pt_truth (pv 9) (by intro _; rfl)) (pss_one PS.ghost) pss_nil)
      (pss_cons (ps_set (i := 12) scOutl.nd rfl (.inl rfl) (pe_callB call_len_seq (by rfl) T.len PySem.boot_len (pa_cons
        (pe_lc (own := [("step", 11)]) (g := gName 11) rfl scOutl.nd (pi_list (pv 8)) (blkOk_by (own := [("step", 11)]) (N := nmOutl) (sc := defScope sOutl) (by decide +kernel)) (fun _ _ _ _ _ => pg_name (i := 11) scOutl.nd rfl (Or.inl rfl)) (fun _ _ _ _ _ => pts_one (pt_cmpR op_eq (pe_ix (show IxR _ (rIxT K) from ix_tup) (pv 11) pe_int (fun _ _ => rfl)) pe_str (nomark _))) (fun _ _ _ _ _ => pv 11)) pa_nil)))
      (pss_cons (ps_if (pt_cmpR op_gt (pv 12) (pv 5) (nomark _)) (pss_one (ps_raiseErr rfl R.t R.b R.n hr1 R.g (takes_of rfl rfl rfl rfl) (pa_cons pe_str (pa_cons (pv 12) (pa_cons (pv 5) pa_nil))))) pss_nil)
      PSs.ghost))))))), ?_⟩
    refine ⟨_, rfl, x, rfl, hx, fun R0 H1 s1 hR => ?_⟩
    rw [hrows] at hR
    refine ⟨_, rfl, R0, _, rfl, .inl (SqL.of hR), _, rfl, _, _, rfl, rfl, _, rfl, ?_⟩
    refine ifF3 (decide_eq_false (by rw [List.length_map]; omega)) ?_
    refine ⟨(by show 0 ≤ sizeLine; decide), fun S0 nS => ?_⟩
    have s2 := s1.trans (Same.new (o := .lst []) nS)
    refine ⟨(by show 0 ≤ sizeLine; decide), fun N0 nN => ?_⟩
    have s3 := s2.trans (Same.new (o := .lst []) nN)
    have HS : H S0 = none := none_of s1 nS
    have HN : H N0 = none := none_of s2 nN
    have SN : S0 ≠ N0 := ne_of_none upd_same nN
    have RS : R0 ≠ S0 := ne_of_none hR nS
    have hR3 : (upd (upd H1 S0 (.lst [])) N0 (.lst [])) R0 = some (.lst (rows.map V.str)) := Same.new nN _ _ (Same.new nS _ _ hR)
    have RN : R0 ≠ N0 := ne_of_none (Same.new nS _ _ hR) nN
    refine ⟨_, rfl, R0, rfl, ⟨_, SqL.of hR3⟩, for_list (K := K) (a := R0) (xs := rows.map V.str) (fun i σ G => ∃ acc nest ys v9 v10, σ = [some (.str x), some (.str kd), some (.ref fS), some (.ref fP), some (.int ml), some (.int mi), some .non, some (.ref R0), some (.ref S0), some (.ref N0), v9, v10, none] ∧
      Same H G ∧ G R0 = some (.lst (rows.map V.str)) ∧ G S0 = some (.lst ys) ∧ G N0 = some (.lst (nest.map V.str)) ∧ StsAt K G ys acc ∧ acc.length = i ∧ nest.length ≤ i ∧ NoWh nest ∧ readGo kd (rows.drop i) acc nest = some (sts, []))
      ⟨[], [], [], none, none, rfl, s3, hR3, by rw [upd_ne SN]; exact upd_same, upd_same, .nil, rfl, Nat.le_refl _, NoWh.nil, hgo0⟩ (fun i σ G _ ⟨_, _, _, _, _, _, _, e, _⟩ => SqL.of e) ?_ ?_⟩
    · rintro i y σ G hi ⟨acc, nest, ys, v9, v10, rfl, hG, gR', gS, gN, hst, hacc, hnl, hnw, hgo⟩
      obtain ⟨r, hri, rfl⟩ : ∃ r, rows[i]? = some r ∧ y = V.str r := by
        rw [List.getElem?_map] at hi
        cases e : rows[i]? with
        | none => rw [e] at hi; cases hi
        | some x => rw [e] at hi; exact ⟨x, rfl, (Option.some.inj hi).symm⟩
      obtain ⟨q1, q2, q3, q4⟩ := hok r (List.mem_of_getElem? hri)
      have hil : i < rows.length := (List.getElem?_eq_some_iff.mp hri).1
      rw [drop_cons hri] at hgo
      have hyl : ys.length = i := by rw [← hacc]; exact Paired.length hst
      refine ⟨_, rfl, ⟨_, rfl⟩, r, _, rfl, rfl, rfl, q1, fun a na => ?_⟩
      have sa := Same.new (o := .lst ((Txt.split r " ").map V.str)) na
      refine ⟨_, rfl, _, rfl, _, rfl, _, rfl, _, rfl, a, N0, Txt.split r " ", nest, kd, rfl, hnw, hkd, SqL.of upd_same, q2, q3, q4, sa _ _ gN, by omega, fun v G2 nest' b2 g2 res => ?_⟩
      have bG : But N0 G G2 := But.trans (But.same sa) b2
      have hG2 : Same H G2 := But.fresh hG bG HN
      have gR2 := bG _ _ gR' RN
      have gS2 := bG _ _ gS SN
      refine ⟨_, rfl, rfl, _, rfl, ?_⟩
      cases o : readS kd (Txt.split r " ") nest with
      | none =>
        have hgo2 : (match readS kd (Txt.split r " ") nest with
          | none => none
          | some (st, n2) => readGo kd (rows.drop (i + 1)) (acc ++ [st]) n2) = some (sts, []) := hgo
        rw [o] at hgo2
        cases hgo2
      | some pr =>
      obtain ⟨st, n2⟩ := pr
      have hgo2 : (match readS kd (Txt.split r " ") nest with
          | none => none
          | some (st, n2) => readGo kd (rows.drop (i + 1)) (acc ++ [st]) n2) = some (sts, []) := hgo
      rw [o] at hgo2 res
      obtain ⟨e1, e2, e3⟩ := res
      subst e1
      refine ifF3 (decide_eq_false e2) ?_
      refine ⟨_, rfl, .inl ⟨rfl, _, SqL.of gS2⟩, _, rfl, S0, _, _, rfl, rfl, gS2, small1000 (by omega), ?_⟩
      refine ⟨acc ++ [st], nest', ys ++ [v], _, _, rfl, Same.write hG2 HS, by rw [upd_ne RS]; exact gR2, upd_same, by rw [upd_ne SN.symm]; exact g2, ?_, by rw [List.length_append, hacc]; rfl, ?_, read_noWh o hnw, hgo2⟩
      · exact StsAt.snoc ⟨e3.keep (Tk.write gS2), read_ok o⟩ ((hst.keep (bG.tk gN)).keep (Tk.write gS2))
      · have := readS_len o
        omega
    · rintro σ G ⟨acc, nest, ys, v9, v10, rfl, hG, gR', gS, gN, hst, hacc, hnl, hnw, hgo⟩
      rw [List.drop_of_length_le (by rw [List.length_map]; exact Nat.le_refl _)] at hgo
      have e : (acc, nest) = (sts, []) := Option.some.inj hgo
      cases e
      have hyl : ys.length = sts.length := Paired.length hst
      have hsl : sts.length = rows.length := by rw [hacc, List.length_map]
      refine ⟨_, rfl, false, .inl ⟨_, SqL.of gN, rfl⟩, ?_⟩
      refine iteF ?_
      refine ⟨_, rfl, S0, rfl, ⟨_, SqL.of gS⟩, fun D nD => ?_⟩
      have sD := Same.new (o := .lst []) nD
      refine lc_list (K := K) (a := S0) (xs := ys) (fun i G2 => ∃ zs, Same G G2 ∧ G2 D = some (.lst zs) ∧ zs.length = (sts.take i).countP isIf) ⟨[], sD, upd_same, rfl⟩ (fun i G2 _ ⟨_, e, _⟩ => SqL.of (e _ _ gS)) ?_ ?_
      · rintro i y G2 hi ⟨zs, s4, hD, hz⟩
        obtain ⟨st, est, hv, hk⟩ := Paired.get hst hi
        obtain ⟨b, rest, rfl, hb⟩ := St.head (hv.keep (Same.tk s4))
        have ht : (sts.take (i + 1)).countP isIf = (sts.take i).countP isIf + (if isIf st = true then 1 else 0) := by
          rw [take_more est, List.countP_append, List.countP_singleton]
        have hle : (sts.take i).countP isIf ≤ 1000 := Nat.le_trans List.countP_le_length (by rw [List.length_take]; omega)
        refine ⟨rfl, ?_⟩
        refine ⟨_, rfl, b, _, 0, _, rfl, rfl, hb, atI_nat (j := 0) rfl, rfl, _, rfl, ?_⟩
        rw [isIf_sort hk]
        cases hif : isIf st with
        | true =>
          rw [hif, if_pos rfl] at ht
          refine iteT ?_
          refine ⟨_, rfl, zs, hD, small1000 (by omega), zs ++ [.ref b], ?_, upd_same, by rw [ht, List.length_append, hz]; rfl⟩
          exact Same.write s4 nD
        | false =>
          rw [hif, if_neg Bool.false_ne_true] at ht
          refine iteF ?_
          exact ⟨zs, s4, hD, by rw [ht, hz]; rfl⟩
      · rintro G2 ⟨zs, s4, hD, hz⟩
        rw [hyl, List.take_length] at hz
        refine ⟨D, _, rfl, .inl (SqL.of hD), ?_⟩
        refine ⟨_, rfl, _, rfl, _, _, rfl, rfl, _, rfl, ?_⟩
        refine ifT3 (decide_eq_true (by omega)) ?_
        refine ⟨_, rfl, _, rfl, rfl, fun d nd => ?_⟩
        rw [hz]
        exact k d _ ((hG.trans s4).trans (Same.new nd)) (none_of (hG.trans s4) nd) upd_same
end
end K14

set_option Elab.async false
set_option linter.all false
set_option maxRecDepth 100000
set_option maxHeartbeats 8000000
/-! k13: codes refused: their kinds, their texts -/
namespace K14
open PySem L2
theorem FnOk.or {P : Program} {w : World} {K : PySem.W.Frag} {mg : Str → Option Value} {base : Heap} {CX : CXT} {k : Nat} {f : Addr} {fd : FuncData} {ps : List Str} {s1 s2 : Sp}
    (a : FnOk P w K mg base CX k f fd ps s1) (b : FnOk P w K mg base CX k f fd ps s2) : FnOk P w K mg base CX k f fd ps fun vs H Q E => s1 vs H Q E ∨ s2 vs H Q E :=
  ⟨fun vs H Q E h => h.elim (a.len vs H Q E) (b.len vs H Q E), fun A outer s H args us vs Q E hr e0 hb r h => h.elim (a.run A outer s H args us vs Q E hr e0 hb r) (b.run A outer s H args us vs Q E hr e0 hb r)⟩
def spBX (C fS fP : Addr) (sO : Sp) : Sp := fun vs H _ E => ∃ (p dx : Addr) (u : V) (x kd : Str), vs = [.ref p, .str kd, u, .str x] ∧ H p = some (.ins C dx []) ∧ kd ∈ kindsL ∧ ∀ H1 fl, But p H H1 → H1 p = some (.ins C dx fl) → sO [.str x, .str kd, .ref fS, .ref fP, .int 48, .int 7, .non] H1 (fun _ _ => False) E
section
variable {P : Program} {w : World} {K : PySem.W.Frag} {mg : Str → Option Value} {base : Heap}
/-- a contract under which nothing is raised -/
theorem FnOk.calm {k : Nat} {f : Addr} {fd : FuncData} {ps : List Str} {sp : Sp} (F : FnOk P w K mg base (L2.CX P w) k f fd ps sp) : FnOk P w K mg base CX0 k f fd ps (fun vs H Q _ => sp vs H Q (fun _ _ _ => False)) := by
  refine ⟨fun vs H Q E h => F.len vs H Q _ h, fun A outer s H args us vs Q E hr e0 hb r h => ?_⟩
  refine codeAny_mono (F.run A outer s H args us vs Q (fun _ _ _ => False) hr e0 hb r h) fun r s' hq => ?_
  cases r with
  | ok fl => cases fl <;> exact hq
  | error e =>
    obtain ⟨_, _, _, _, _, _, _, _, _, _, _, _, z⟩ := hq
    exact z.elim
theorem ok_btext {f C fA fR fS fP : Addr} {fd fdA fdR : FuncData} {dsR : List Value} {sO : Sp} (F : Fun K "__init__" "BlockCode.__init__" sBI f fd) (TC : TxtC K w mg) (TK : TxtK K w mg C)
    (GA : FnOk P w K mg base CX0 1 fA fdA ["value", "words"] (spAmong K)) (kA : PySem.W.keepIn K (.ref fA) = true) (bA : Binds K fdA ["value", "words"] []) (gA : mg "is_among" = some (.ref fA))
    (GR : FnOk P w K mg base (L2.CX P w) 7 fR fdR ["text", "kind", "step_in", "part_in", "most_lines", "most_ifs", "loop_in"] sO) (kR : PySem.W.keepIn K (.ref fR) = true) (bR : Binds K fdR ["text", "kind", "step_in", "part_in", "most_lines", "most_ifs", "loop_in"] dsR) (rR : Vals [V.non] dsR) (gR : mg "read_outline" = some (.ref fR))
    (gS : mg "block_step_in" = some (.ref fS)) (gP : mg "block_part_in" = some (.ref fP)) (mono : ∀ vs H Q E, sO vs H (fun _ _ => False) E → sO vs H Q E) :
    FnOk P w K mg base (L2.CX P w) 8 f fd ["self", "kind", "rules", "text"] (spBX C fS fP sO) := by
  obtain ⟨cK, hcK, hCK⟩ := TC.bk
  obtain ⟨t1, hml⟩ := TK.ml
  obtain ⟨t2, hmi⟩ := TK.mi
  refine F.okX scBI (fun vs H Q E h => ?_) (fun cdv A outer s H vs Q E hr h => ?_)
  · obtain ⟨p, dx, u, x, kd, rfl, _⟩ := h
    rfl
  · obtain ⟨p, dx, u, x, kd, rfl, hp, hkd, k⟩ := h
    have hr1 : Room 1 _ := hr.mono (by decide)
    have hr7 : Room 7 _ := hr.mono (by decide)
    refine ⟨_, pss_cons (ps_if (pt_not (pt_val (pe_call GA hr1 rfl gA kA bA .nil pass0 (pa_cons (pv 1) (pa_cons (pe_glob (v := .ref cK) (by rfl) hcK rfl) pa_nil))))) (pss_one PS.ghost) pss_nil)
      (pss_cons (ps_fld (pv 0) (pv 1) rfl)
      (pss_cons (ps_fld (pv 0) (pv 2) rfl)
      (pss_cons (ps_fld (pv 0) (pv 3) rfl)
      (pss_cons (ps_fld (pv 0) (pe_callSD GR hr7 rfl gR kR bR rR (fun σ => passAt (takes_of rfl rfl rfl rfl) σ) (by exact (pa_cons (pv 3) (pa_cons (pv 1) (pa_cons (pe_glob (v := .ref fS) (by rfl) gS rfl) (pa_cons (pe_glob (v := .ref fP) (by rfl) gP rfl) (pa_cons (pe_glob (v := .int 48) (by rfl) hml ⟨t1, rfl⟩) (pa_cons (pe_glob (v := .int 7) (by rfl) hmi ⟨t2, rfl⟩) pa_nil)))))))) rfl)
      PSs.ghost)))), ?_⟩
    refine ⟨_, rfl, kd, cK, kindsL, rfl, hCK _, _, rfl, ?_⟩
    refine ifF3 (by rw [decide_eq_true hkd]; rfl) ?_
    refine nxt ?_
    dsimp only
    refine ⟨_, rfl, _, rfl, p, C, dx, [], rfl, hp, TK.cl, TK.nK, (by show 0 < 1000; decide), ?_⟩
    refine ⟨_, rfl, _, rfl, p, C, dx, _, rfl, upd_same, TK.cl, TK.nR, (by show 1 < 1000; decide), ?_⟩
    refine ⟨_, rfl, _, rfl, p, C, dx, _, rfl, upd_same, TK.cl, TK.nT, (by show 2 < 1000; decide), ?_⟩
    refine ⟨_, rfl, _, rfl, ?_⟩
    exact mono _ _ _ _ (k _ _ ((But.upd.trans But.upd).trans But.upd) upd_same)
end
end K14

set_option Elab.async false
set_option linter.all false
set_option maxRecDepth 100000
set_option maxHeartbeats 8000000
/-! k13: closed texts: what comes of them -/
namespace K14
open PySem L2
/-- where an else or an if leads -/
def tgN (tg : List V) (l : Nat) : Nat := match tg[l]? with
  | some (.int t) => t.toNat - 1
  | _ => 0
/-- what comes behind the place l on each way, f lines at most -/
def wayR (sts : List St) (tg : List V) : Nat → Nat → List (List Nat)
  | 0, _ => [[]]
  | f + 1, l => match sts[l]? with
    | none => [[]]
    | some .els => wayR sts tg f (tgN tg l)
    | some (.fin _) => [[l + 1]]
    | some .nd => wayR sts tg f (l + 1)
    | some (.set _ _ _ _) => (wayR sts tg f (l + 1)).map ((l + 1) :: ·)
    | some (.iff _) => (wayR sts tg f (l + 1)).map ((l + 1) :: ·) ++ (wayR sts tg f (tgN tg l)).map ((l + 1) :: ·)
def leads : St → Bool
  | .els => true
  | .iff _ => true
  | _ => false
def tgOkB (tg : List V) (n l : Nat) : Bool := match tg[l]? with
  | some (.int t) => decide (1 ≤ t) && decide (l < t.toNat - 1) && decide (t.toNat - 1 ≤ n)
  | _ => false
def tgsB (sts : List St) (tg : List V) : Bool := (List.range sts.length).all fun l => match sts[l]? with
  | some st => !leads st || tgOkB tg sts.length l
  | none => true
theorem tgOk_of {tg : List V} {n l : Nat} (h : tgOkB tg n l = true) : tg[l]? = some (.int ((tgN tg l + 1 : Nat) : Int)) ∧ l < tgN tg l ∧ tgN tg l ≤ n := by
  unfold tgOkB at h
  split at h
  · rename_i t e
    simp only [Bool.and_eq_true, decide_eq_true_eq] at h
    have e2 : tgN tg l = t.toNat - 1 := by unfold tgN; rw [e]
    rw [e2]
    refine ⟨?_, h.1.2, h.2⟩
    rw [e, show ((t.toNat - 1 + 1 : Nat) : Int) = t by omega]
  · cases h
theorem tgs_at {sts : List St} {tg : List V} (h : tgsB sts tg = true) {l : Nat} {st : St} (e : sts[l]? = some st) (hl : leads st = true) : tgOkB tg sts.length l = true := by
  unfold tgsB at h
  have a := List.all_eq_true.mp h l (List.mem_range.mpr (List.getElem?_eq_some_iff.mp e).1)
  rw [e] at a
  have a : (!leads st || tgOkB tg sts.length l) = true := a
  rw [hl] at a
  exact a
theorem wayR_fuel {sts : List St} {tg : List V} (h : tgsB sts tg = true) : ∀ (f1 f2 l : Nat), sts.length - l ≤ f1 → sts.length - l ≤ f2 → wayR sts tg f1 l = wayR sts tg f2 l := by
  intro f1
  induction f1 with
  | zero =>
    intro f2 l h1 _
    have e : sts[l]? = none := List.getElem?_eq_none (by omega)
    cases f2 with
    | zero => rfl
    | succ f2 => simp only [wayR, e]
  | succ f1 ih =>
    intro f2 l h1 h2
    by_cases hl : sts.length ≤ l
    · have e : sts[l]? = none := List.getElem?_eq_none hl
      cases f2 with
      | zero => simp only [wayR, e]
      | succ f2 => simp only [wayR, e]
    · obtain ⟨f2, rfl⟩ : ∃ g, f2 = g + 1 := ⟨f2 - 1, by omega⟩
      have hn := ih f2 (l + 1) (by omega) (by omega)
      cases e : sts[l]? with
      | none => simp only [wayR, e]
      | some st =>
        cases st with
        | fin s => simp only [wayR, e]
        | set so n ds c => simp only [wayR, e, hn]
        | nd => simp only [wayR, e, hn]
        | els =>
          have t := tgOk_of (tgs_at h e rfl)
          simp only [wayR, e]
          exact ih f2 _ (by omega) (by omega)
        | iff c =>
          have t := tgOk_of (tgs_at h e rfl)
          simp only [wayR, e, hn]
          rw [ih f2 (tgN tg l) (by omega) (by omega)]
theorem wayR_eq {sts : List St} {tg : List V} (h : tgsB sts tg = true) : RunEq sts tg (wayR sts tg sts.length) := by
  have step : ∀ l, l < sts.length → ∃ f, sts.length = f + 1 ∧ ∀ m, l < m → wayR sts tg f m = wayR sts tg sts.length m := fun l hl =>
    ⟨sts.length - 1, by omega, fun m hm => wayR_fuel h _ _ m (by omega) (by omega)⟩
  refine ⟨fun l hl => ?_, fun l e => ?_, fun l x e => ?_, fun l e => ?_, fun l n sm sg k e => ?_, fun l c e => ?_⟩
  · have e : sts[l]? = none := List.getElem?_eq_none hl
    cases z : sts.length with
    | zero => rfl
    | succ f => simp only [wayR, e]
  all_goals
    have hl : l < sts.length := (List.getElem?_eq_some_iff.mp e).1
    obtain ⟨f, ef, k⟩ := step l hl
  · have t := tgOk_of (tgs_at h e rfl)
    refine ⟨_, t.1, t.2.1, t.2.2, ?_⟩
    rw [← k _ t.2.1]
    conv => lhs; rw [ef]
    simp only [wayR, e]
  · conv => lhs; rw [ef]
    simp only [wayR, e]
  · rw [← k _ (Nat.lt_succ_self l)]
    conv => lhs; rw [ef]
    simp only [wayR, e]
  · rw [← k _ (Nat.lt_succ_self l)]
    conv => lhs; rw [ef]
    simp only [wayR, e]
  · have t := tgOk_of (tgs_at h e rfl)
    refine ⟨_, t.1, t.2.1, t.2.2, ?_⟩
    rw [← k _ t.2.1, ← k _ (Nat.lt_succ_self l)]
    conv => lhs; rw [ef]
    simp only [wayR, e]
end K14

set_option Elab.async false
set_option linter.all false
set_option maxRecDepth 100000
set_option maxHeartbeats 8000000
/-! k14: what is read has its ends; how many ways there are -/
namespace K14
open PySem L2
/-- the open blocks behind a step -/
def nestS : St → List Str → Option (List Str)
  | .iff _, n => some (n ++ [("if" : Str)])
  | .els, n => if n = [] ∨ n.getLast? = some ("else" : Str) then none else some (n.dropLast ++ [("else" : Str)])
  | .nd, n => if n = [] then none else some n.dropLast
  | _, n => some n
def nestAll : List St → List Str → Option (List Str)
  | [], n => some n
  | st :: r, n => match nestS st n with
    | none => none
    | some n2 => nestAll r n2
theorem step_plain {kd : Str} {ws : List Str} {st : St} (h : stepS kd ws = some st) (n : List Str) : nestS st n = some n := by
  unfold stepS at h
  cases e : stepM kd ws with
  | none => rw [e] at h; cases h
  | some d =>
    rw [e] at h
    have h' : ofD d = some st := h
    rcases stepM_actM e with rfl | rfl | ⟨so, m, ds, rfl, hn⟩ <;> cases h' <;> rfl
theorem readS_nest {kd : Str} {ws nest n2 : List Str} {st : St} (h : readS kd ws nest = some (st, n2)) : nestS st nest = some n2 := by
  unfold readS at h
  split at h
  · cases e : testM (hPartM kd) (ws.drop 1) with
    | none => rw [e] at h; cases h
    | some t => rw [e] at h; cases h; rfl
  split at h
  · split at h
    · cases h
    · rename_i hc
      cases h
      exact if_neg hc
  split at h
  · split at h
    · cases h
    · rename_i hc
      cases h
      exact if_neg hc
  · cases e : stepS kd ws with
    | none => rw [e] at h; cases h
    | some s => rw [e] at h; cases h; exact step_plain e _
theorem readGo_nest {kd : Str} : ∀ (rows : List Str) (acc sts : List St) (nest n2 : List Str), readGo kd rows acc nest = some (sts, n2) → ∃ new, sts = acc ++ new ∧ nestAll new nest = some n2
  | [], acc, sts, nest, n2, h => by
    have e : (acc, nest) = (sts, n2) := Option.some.inj h
    cases e
    exact ⟨[], (List.append_nil _).symm, rfl⟩
  | r :: rs, acc, sts, nest, n2, h => by
    have h' : (match readS kd (Txt.split r " ") nest with
      | none => none
      | some (st, n2) => readGo kd rs (acc ++ [st]) n2) = some (sts, n2) := h
    cases e : readS kd (Txt.split r " ") nest with
    | none => rw [e] at h'; cases h'
    | some q =>
      obtain ⟨st, n1⟩ := q
      rw [e] at h'
      obtain ⟨new, h1, h2⟩ := readGo_nest rs _ _ _ _ h'
      refine ⟨st :: new, by rw [h1, List.append_assoc]; rfl, ?_⟩
      show (match nestS st nest with
        | none => none
        | some n2 => nestAll new n2) = some n2
      rw [readS_nest e]
      exact h2
/-- the targets so far: each place that leads somewhere waits or has its target -/
structure TgI (all : List St) (i : Nat) (tg : List V) (wt : List Nat) : Prop where
  len : tg.length = all.length
  lt : ∀ j ∈ wt, j < i
  done : ∀ (l : Nat) (st : St), l < i → all[l]? = some st → leads st = true → l ∈ wt ∨ ∃ t : Int, tg[l]? = some (.int t) ∧ 1 ≤ t ∧ l < t.toNat - 1 ∧ t.toNat - 1 ≤ i
theorem mem_dropLast {wt : List Nat} {j l : Nat} (h : wt.getLast? = some j) (hl : l ∈ wt) (hn : l ≠ j) : l ∈ wt.dropLast := by
  have ne : wt ≠ [] := fun z => by rw [z] at h; cases h
  have e : wt.getLast ne = j := by
    rw [List.getLast?_eq_some_getLast ne] at h
    exact Option.some.inj h
  rw [← List.dropLast_concat_getLast ne] at hl
  rcases List.mem_append.mp hl with z | z
  · exact z
  · rw [List.mem_singleton.mp z, e] at hn
    exact absurd rfl hn
theorem TgI.plain {all : List St} {i : Nat} {tg : List V} {wt : List Nat} (I : TgI all i tg wt) {st : St} (e : all[i]? = some st) (h : leads st = false) : TgI all (i + 1) tg wt := by
  refine ⟨I.len, fun j hj => Nat.lt_succ_of_lt (I.lt j hj), fun l st2 hl e2 h2 => ?_⟩
  by_cases c : l = i
  · rw [c, e] at e2
    cases e2
    rw [h] at h2
    cases h2
  · rcases I.done l st2 (by omega) e2 h2 with z | ⟨t, a, b, c, d⟩
    · exact .inl z
    · exact .inr ⟨t, a, b, c, by omega⟩
theorem TgI.push {all : List St} {i : Nat} {tg : List V} {wt : List Nat} (I : TgI all i tg wt) : TgI all (i + 1) tg (wt ++ [i]) := by
  refine ⟨I.len, fun j hj => ?_, fun l st2 hl e2 h2 => ?_⟩
  · rcases List.mem_append.mp hj with z | z
    · exact Nat.lt_succ_of_lt (I.lt j z)
    · rw [List.mem_singleton.mp z]; exact Nat.lt_succ_self i
  · by_cases c : l = i
    · exact .inl (List.mem_append_right _ (by rw [c]; exact List.mem_singleton.mpr rfl))
    · rcases I.done l st2 (by omega) e2 h2 with z | ⟨t, a, b, c, d⟩
      · exact .inl (List.mem_append_left _ z)
      · exact .inr ⟨t, a, b, c, by omega⟩
theorem TgI.close {all : List St} {i j : Nat} {tg : List V} {wt : List Nat} (I : TgI all i tg wt) (hi : i < all.length) (h : wt.getLast? = some j) (keep : ∀ st, all[i]? = some st → leads st = true → False) : TgI all (i + 1) (tg.set j (.int ((i + 2 : Nat) : Int))) wt.dropLast := by
  have hj : j ∈ wt := List.mem_of_getLast? h
  have hji := I.lt j hj
  have hlen := I.len
  refine ⟨by rw [List.length_set]; exact I.len, fun m hm => Nat.lt_succ_of_lt (I.lt m (List.dropLast_subset _ hm)), fun l st2 hl e2 h2 => ?_⟩
  by_cases c : l = i
  · rw [c] at e2
    exact (keep st2 e2 h2).elim
  by_cases cj : l = j
  · refine .inr ⟨((i + 2 : Nat) : Int), by rw [cj]; exact List.getElem?_set_self (by omega), by omega, by omega, by omega⟩
  · rcases I.done l st2 (by omega) e2 h2 with z | ⟨t, a, b, c, d⟩
    · exact .inl (mem_dropLast h z cj)
    · exact .inr ⟨t, by rw [List.getElem?_set_ne (fun q => cj q.symm)]; exact a, b, c, by omega⟩
theorem TgI.swap {all : List St} {i j : Nat} {tg : List V} {wt : List Nat} (I : TgI all i tg wt) (hi : i < all.length) (h : wt.getLast? = some j) : TgI all (i + 1) (tg.set j (.int ((i + 2 : Nat) : Int))) (wt.dropLast ++ [i]) := by
  have hj : j ∈ wt := List.mem_of_getLast? h
  have hji := I.lt j hj
  have hlen := I.len
  refine ⟨by rw [List.length_set]; exact I.len, fun m hm => ?_, fun l st2 hl e2 h2 => ?_⟩
  · rcases List.mem_append.mp hm with z | z
    · exact Nat.lt_succ_of_lt (I.lt m (List.dropLast_subset _ z))
    · rw [List.mem_singleton.mp z]; exact Nat.lt_succ_self i
  by_cases c : l = i
  · exact .inl (List.mem_append_right _ (by rw [c]; exact List.mem_singleton.mpr rfl))
  by_cases cj : l = j
  · refine .inr ⟨((i + 2 : Nat) : Int), by rw [cj]; exact List.getElem?_set_self (by omega), by omega, by omega, by omega⟩
  · rcases I.done l st2 (by omega) e2 h2 with z | ⟨t, a, b, c, d⟩
    · exact .inl (List.mem_append_left _ (mem_dropLast h z cj))
    · exact .inr ⟨t, by rw [List.getElem?_set_ne (fun q => cj q.symm)]; exact a, b, c, by omega⟩
theorem last_some {α : Type} {l : List α} (h : l ≠ []) : ∃ j, l.getLast? = some j := ⟨l.getLast h, List.getLast?_eq_some_getLast h⟩
theorem tgGo_ok (all : List St) : ∀ (rest : List St) (i : Nat) (tg : List V) (wt : List Nat) (nest n2 : List Str), all.drop i = rest → nestAll rest nest = some n2 → wt.length = nest.length → TgI all i tg wt → ∃ tg' wt', tgGo rest i tg wt = some tg' ∧ wt'.length = n2.length ∧ TgI all (i + rest.length) tg' wt'
  | [], i, tg, wt, nest, n2, _, hn, hw, I => by
    cases hn
    exact ⟨tg, wt, rfl, hw, I⟩
  | st :: r, i, tg, wt, nest, n2, hd, hn, hw, I => by
    have hi : all[i]? = some st := by
      rw [← List.head?_drop, hd]
      rfl
    have hlt : i < all.length := (List.getElem?_eq_some_iff.mp hi).1
    have hd2 : all.drop (i + 1) = r := by
      rw [← List.drop_drop, hd]
      rfl
    have hn' : (match nestS st nest with
      | none => none
      | some n2 => nestAll r n2) = some n2 := hn
    have fin : ∀ {tg2 : List V} {wt2 : List Nat}, (∃ tg' wt', tgGo r (i + 1) tg2 wt2 = some tg' ∧ wt'.length = n2.length ∧ TgI all (i + 1 + r.length) tg' wt') → ∃ tg' wt', tgGo r (i + 1) tg2 wt2 = some tg' ∧ wt'.length = n2.length ∧ TgI all (i + (st :: r).length) tg' wt' := fun ⟨a, b, c, d, e⟩ =>
      ⟨a, b, c, d, by rw [List.length_cons, show i + (r.length + 1) = i + 1 + r.length by omega]; exact e⟩
    cases st with
    | fin s => exact fin (tgGo_ok all r (i + 1) tg wt nest n2 hd2 hn' hw (I.plain hi rfl))
    | set so n ds c => exact fin (tgGo_ok all r (i + 1) tg wt nest n2 hd2 hn' hw (I.plain hi rfl))
    | iff t =>
      have hn' : nestAll r (nest ++ [("if" : Str)]) = some n2 := hn'
      exact fin (tgGo_ok all r (i + 1) tg (wt ++ [i]) _ n2 hd2 hn' (by rw [List.length_append, List.length_append, hw]; rfl) I.push)
    | els =>
      by_cases c : nest = [] ∨ nest.getLast? = some ("else" : Str)
      · rw [show nestS .els nest = none from if_pos c] at hn'
        cases hn'
      rw [show nestS .els nest = some (nest.dropLast ++ [("else" : Str)]) from if_neg c] at hn'
      have ne : wt ≠ [] := fun z => c (.inl (List.length_eq_zero_iff.mp (by rw [← hw, z]; rfl)))
      obtain ⟨j, hj⟩ := last_some ne
      show ∃ tg' wt', (match wt.getLast? with
        | none => none
        | some j => tgGo r (i + 1) (tg.set j (.int ((i + 2 : Nat) : Int))) (wt.dropLast ++ [i])) = some tg' ∧ wt'.length = n2.length ∧ TgI all (i + (St.els :: r).length) tg' wt'
      rw [hj]
      exact fin (tgGo_ok all r (i + 1) _ _ _ n2 hd2 hn' (by rw [List.length_append, List.length_append, List.length_dropLast, List.length_dropLast, hw]; rfl) (I.swap hlt hj))
    | nd =>
      by_cases c : nest = []
      · rw [show nestS .nd nest = none from if_pos c] at hn'
        cases hn'
      rw [show nestS .nd nest = some nest.dropLast from if_neg c] at hn'
      have ne : wt ≠ [] := fun z => c (List.length_eq_zero_iff.mp (by rw [← hw, z]; rfl))
      obtain ⟨j, hj⟩ := last_some ne
      show ∃ tg' wt', (match wt.getLast? with
        | none => none
        | some j => tgGo r (i + 1) (tg.set j (.int ((i + 2 : Nat) : Int))) wt.dropLast) = some tg' ∧ wt'.length = n2.length ∧ TgI all (i + (St.nd :: r).length) tg' wt'
      rw [hj]
      exact fin (tgGo_ok all r (i + 1) _ _ _ n2 hd2 hn' (by rw [List.length_dropLast, List.length_dropLast, hw]) (I.close hlt hj (fun st2 e2 h2 => by rw [hi] at e2; cases e2; cases h2)))
theorem tgs_of {sts : List St} (h : nestAll sts [] = some []) : ∃ tg, tgM sts = some tg ∧ tgsB sts tg = true := by
  obtain ⟨tg, wt, h1, h2, I⟩ := tgGo_ok sts sts 0 (List.replicate sts.length .non) [] [] [] rfl h rfl ⟨List.length_replicate, fun j hj => (nomatch hj), fun l st hl => absurd hl (Nat.not_lt_zero _)⟩
  have hw : wt = [] := List.length_eq_zero_iff.mp h2
  rw [hw, Nat.zero_add] at I
  refine ⟨tg, h1, ?_⟩
  unfold tgsB
  rw [List.all_eq_true]
  intro l hl
  have hl := List.mem_range.mp hl
  rw [List.getElem?_eq_getElem hl]
  show (!leads sts[l] || tgOkB tg sts.length l) = true
  cases c : leads sts[l] with
  | false => rfl
  | true =>
    rcases I.done l _ hl (List.getElem?_eq_getElem hl) c with z | ⟨t, a, b, c, d⟩
    · cases z
    · show tgOkB tg sts.length l = true
      unfold tgOkB
      rw [a]
      show (decide (1 ≤ t) && decide (l < t.toNat - 1) && decide (t.toNat - 1 ≤ sts.length)) = true
      rw [decide_eq_true b, decide_eq_true c, decide_eq_true d]
      rfl
theorem drop_count {sts : List St} {a b : Nat} (h : a ≤ b) : (sts.drop b).countP isIf ≤ (sts.drop a).countP isIf := by
  obtain ⟨c, rfl⟩ := Nat.exists_eq_add_of_le h
  rw [← List.drop_drop]
  exact (List.drop_sublist _ _).countP_le
theorem ways_len {sts : List St} {tg : List V} (h : tgsB sts tg = true) : ∀ (f l : Nat), (wayR sts tg f l).length ≤ 2 ^ ((sts.drop l).countP isIf)
  | 0, l => Nat.one_le_two_pow
  | f + 1, l => by
    have one : 1 ≤ 2 ^ ((sts.drop l).countP isIf) := Nat.one_le_two_pow
    cases e : sts[l]? with
    | none => simp only [wayR, e]; exact one
    | some st =>
      have hd : sts.drop l = st :: sts.drop (l + 1) := by
        have z := (List.getElem?_eq_some_iff.mp e)
        obtain ⟨hl, z⟩ := z
        rw [List.drop_eq_getElem_cons hl, z]
      have mono : ∀ m, l ≤ m → 2 ^ ((sts.drop m).countP isIf) ≤ 2 ^ ((sts.drop l).countP isIf) := fun m hm => Nat.pow_le_pow_right (by decide) (drop_count hm)
      cases st with
      | fin s => simp only [wayR, e]; exact one
      | nd =>
        simp only [wayR, e]
        exact Nat.le_trans (ways_len h f (l + 1)) (mono _ (Nat.le_succ l))
      | set so n ds c =>
        simp only [wayR, e]
        rw [List.length_map]
        exact Nat.le_trans (ways_len h f (l + 1)) (mono _ (Nat.le_succ l))
      | els =>
        have t := tgOk_of (tgs_at h e rfl)
        simp only [wayR, e]
        exact Nat.le_trans (ways_len h f _) (mono _ (Nat.le_of_lt t.2.1))
      | iff c =>
        have t := tgOk_of (tgs_at h e rfl)
        simp only [wayR, e]
        rw [List.length_append, List.length_map, List.length_map, hd, List.countP_cons_of_pos (by rfl), Nat.pow_succ]
        have a := ways_len h f (l + 1)
        have b := Nat.le_trans (ways_len h f (tgN tg l)) (Nat.pow_le_pow_right (by decide) (drop_count (sts := sts) (show l + 1 ≤ tgN tg l from t.2.1)))
        omega
/-- what is read: its ways -/
theorem read_ways {kd : Str} {rows : List Str} {sts : List St} (h : readGo kd rows [] [] = some (sts, [])) (hi : sts.countP isIf ≤ 7) : ∃ tg R, tgM sts = some tg ∧ RunEq sts tg R ∧ (R 0).length ≤ 800 := by
  obtain ⟨new, e, hn⟩ := readGo_nest _ _ _ _ _ h
  rw [List.nil_append] at e
  subst e
  obtain ⟨tg, h1, h2⟩ := tgs_of hn
  refine ⟨tg, _, h1, wayR_eq h2, Nat.le_trans (ways_len h2 _ 0) ?_⟩
  rw [List.drop_zero]
  exact Nat.le_trans (Nat.pow_le_pow_right (by decide) hi) (by decide)
/-- read or bad -/
theorem read_or_bad (kd : Str) : ∀ (rows : List Str) (acc : List St) (i : Nat) (nest : List Str), (∃ sts, readGo kd rows acc nest = some (sts, [])) ∧ badGo kd rows i nest = none ∨ ∃ n, badGo kd rows i nest = some n
  | [], acc, i, nest => by
    by_cases c : nest = []
    · subst c
      exact .inl ⟨⟨acc, rfl⟩, if_pos rfl⟩
    · exact .inr ⟨i + 1, if_neg c⟩
  | r :: rs, acc, i, nest => by
    show (∃ sts, (match readS kd (Txt.split r " ") nest with
      | none => none
      | some (st, n2) => readGo kd rs (acc ++ [st]) n2) = some (sts, [])) ∧ (match readS kd (Txt.split r " ") nest with
      | none => some (i + 1)
      | some (_, n2) => badGo kd rs (i + 1) n2) = none ∨ ∃ n, (match readS kd (Txt.split r " ") nest with
      | none => some (i + 1)
      | some (_, n2) => badGo kd rs (i + 1) n2) = some n
    cases e : readS kd (Txt.split r " ") nest with
    | none => exact .inr ⟨i + 1, rfl⟩
    | some p => exact read_or_bad kd rs (acc ++ [p.1]) (i + 1) p.2
end K14

set_option Elab.async false
set_option linter.all false
set_option maxRecDepth 100000
set_option maxHeartbeats 2000000
/-! k14: clauses with a name and without one, mixed -/
namespace L2
open PySem PySem.Spec PyProof.Rows
/-- what mixed clauses wish; those with a name store in slot i -/
def wMix (K : PySem.W.Frag) (i : Nat) (Wo : WX) (D : Ends) : List (Bool × Cl) → WX
  | [] => Wo
  | (true, c, ts) :: more => fun cls d τ G => ∃ yes, PySem.W.exmOne K cls c = some yes ∧ (yes = true → ∀ e, G e = none → ts e cls d (goneD i D) (τ.set i (some (.ref e))) G) ∧ (yes = false → wMix K i Wo D more cls d τ G)
  | (false, c, ts) :: more => fun cls d τ G => ∃ yes, PySem.W.exmOne K cls c = some yes ∧ (yes = true → ∀ e, G e = none → ts e cls d D τ G) ∧ (yes = false → wMix K i Wo D more cls d τ G)
inductive Mixed (X : Cx) (n : Str) : List ExceptHandler → List (Bool × Cl) → Prop
  | nil : Mixed X n [] []
  | named {x : Str} {c : Value} {ts : Addr → Value → Option Addr → TS} {s0 : Stmt} {ss : List Stmt} {pa pb : Pos} {hs : List ExceptHandler} {l : List (Bool × Cl)} (nm : Names X x c)
      (su : ∀ (e : Addr) (oe : Obj) (cls : Value) (d : Option Addr) (pn : List (Addr × Obj)), Zc cls d oe → (∃ vs, oe.data = .fields vs) → PSs (X.suite e ((e, oe) :: pn)) (s0 :: ss) (ts e cls d)) (more : Mixed X n hs l) :
      Mixed X n (.ExceptHandler (some (.Name x pa)) (some n) (s0 :: ss) pb :: hs) ((true, c, ts) :: l)
  | bare {x : Str} {c : Value} {ts : Addr → Value → Option Addr → TS} {s0 : Stmt} {ss : List Stmt} {pa pb : Pos} {hs : List ExceptHandler} {l : List (Bool × Cl)} (nm : Names X x c)
      (su : ∀ (e : Addr) (oe : Obj) (cls : Value) (d : Option Addr) (pn : List (Addr × Obj)), Zc cls d oe → (∃ vs, oe.data = .fields vs) → PSs (X.suite e ((e, oe) :: pn)) (s0 :: ss) (ts e cls d)) (more : Mixed X n hs l) :
      Mixed X n (.ExceptHandler (some (.Name x pa)) none (s0 :: ss) pb :: hs) ((false, c, ts) :: l)
section
variable {X : Cx} {n : Str} {i : Nat} {body : List Stmt} {hd : ExceptHandler} {hs : List ExceptHandler} {l : List (Bool × Cl)} {pos : Pos} {tb : WX → TS} {Wo : WX}
theorem ps_try_mixed (hst : X.stack = X.env :: X.outer) (hfr : X.env.frame = some X.env.locals) (hN : X.N.Nodup) (hi : X.N[i]? = some n) (hln : X.env.kindOf n = some .local) (tk : Takes X Wo)
    (hb : ∀ (W : WX) (pn : List (Addr × Obj)) (xe : Value → Shared → Prop), Takes (X.tr pn xe) W → PassesOwn (model X.prog X.w) X.A X.env xe → PSs (X.tr pn xe) body (tb W))
    (hh : Mixed X n (hd :: hs) l) : PS X (.Try body (hd :: hs) [] [] pos) (fun D σ H => tb (wMix X.K i Wo D l) D σ H) := by
  constructor
  intro pins s σ H D I start
  have ok := I.ok
  have frs_ : X.A.frames = some (X.env :: X.outer) := ok.frames.trans (by rw [hst])
  refine wpAny_Try_except ?_
  have run := (hb (wMix X.K i Wo D l) (X.pn ++ pins) (fun ev t1 => wpAny (model X.prog X.w) X.A (noteFrame ev X.env) (fun _ t2 => wpAny (model X.prog X.w) X.A (setFlight ev none)
    (fun _ t3 => wpAny (model X.prog X.w) X.A (handleBy ev X.env (hd :: hs)) (SP X pins D) X.xe t3) X.xe t2) X.xe t1) (fun u t xx => ?_) PassesOwn.looking).run [] s σ H D (I.toTry _) start
  · refine wpAny_mono run (fun f t z => ?_) (fun ev t z => z)
    cases f with
    | ret u =>
      obtain ⟨v, τ, G, J, r, q⟩ := z
      exact ⟨v, τ, G, J.ofTry ok, r, q⟩
    | next =>
      obtain ⟨τ, G, J, q⟩ := z
      exact wpAny_execs_nil ⟨τ, G, J.ofTry ok, q⟩
    | brk =>
      obtain ⟨τ, G, J, q⟩ := z
      exact ⟨τ, G, J.ofTry ok, q⟩
    | cont =>
      obtain ⟨τ, G, J, q⟩ := z
      exact ⟨τ, G, J.ofTry ok, q⟩
  obtain ⟨e, B, t0, pins0, τ, G, cls, d, rfl, J0, ground, up, sky, ne, eos, bare, wish⟩ := xx
  have J : Inv X pins τ G t0 := J0.ofTry ok
  have sky2 : Sky B (X.env :: X.outer) e (Zc cls d) X.env.locals t.heap := by
    rw [← hst]
    exact sky
  show wpAny (model X.prog X.w) X.A (noteFrame (.ref e) X.env) _ _ _
  refine Sky.land Zc.steady frs_ hfr sky2 fun g3 fly3 up3 => ?_
  have up03 := up.trans up3
  have J3 : Inv X pins τ G { t with heap := g3 } := J.landed ground fly3.1 up03 eos bare
  obtain ⟨o3, v3, get3, z3, d3⟩ := fly3.there
  have out : e ∉ frs (X.env :: X.outer) := fun m => by
    obtain ⟨_, o', e', no⟩ := fly3.2.2.1.mem m
    rw [get3] at e'
    cases e'
    exact no _ d3
  have outL : e ≠ X.env.locals := fun z => out (List.mem_filterMap.mpr ⟨X.env, List.mem_cons_self, by rw [hfr, z]⟩)
  have outF : e ∉ X.fs := fun m => by
    obtain ⟨env', he', q⟩ := List.mem_filterMap.mp m
    exact out (List.mem_filterMap.mpr ⟨env', List.mem_cons_of_mem _ he', q⟩)
  have S3 := J3.suite get3 d3 ne outL outF
  have main : ∀ {hs' : List ExceptHandler} {l' : List (Bool × Cl)}, Mixed X n hs' l' → wMix X.K i Wo D l' cls d τ G → wpAny (model X.prog X.w) X.A (handleBy (.ref e) X.env hs') (SP X pins D) X.xe { t with heap := g3 } := by
    intro hs' l' c
    induction c with
    | nil =>
      intro w
      refine wpAny_handleBy_nil ?_
      obtain ⟨_, _, _, oe, vs, T, oT, ts', he, _, hdt, h1, _⟩ := id fly3
      have fin : wpAny (model X.prog X.w) X.A (setFlight (.ref e) X.env.frame) (fun _ t4 => wpAny (model X.prog X.w) X.A (throw (.ref e) : Sem Flow) (SP X pins D) X.xe t4) X.xe { t with heap := g3 } := by
        rw [hfr]
        refine HandSPX.setFlight_upZ fly3 fun g4 held4 up4 => wpAny_throw (tk _ _ ⟨e, B, t0, pins, τ, G, cls, d, rfl, J, ground, up03.trans up4, .inr (.inr ?_), ne, eos, bare, w⟩)
        rw [hst]
        exact held4
      unfold PySem.passOn
      refine wpAny_bind (wpAny_field he hdt h1 ?_)
      have notNone : ¬ ((Value.ref T == Value.none) = true) := by simp
      rw [if_neg notNone]
      first
        | exact wpAny_bind fin
        | exact wpAny_bind (wpAny_pure (wpAny_bind fin))
    | @named x c ts s0 ss pa pb hs2 l2 nm su more ih =>
      intro w
      obtain ⟨yes, hy, w1, w0⟩ := w
      refine wpAny_handleBy_cons (codeAny_handlers_test ?_) (by intro q; cases q)
      have ty : PySem.W.Looks (model X.prog X.w) g3 (typeOf (.ref e)) cls := fun A Q E s k q => wpAny_typeOf_ref (k _ _ get3) (by rw [z3.1]; exact q)
      have mt := PySem.W.exm_one (M := model X.prog X.w) (J3.kIn) ty hy
      have named : ∀ {Q : Value → Shared → Prop} {E : Value → Shared → Prop}, Q c { t with heap := g3 } → wpAny (model X.prog X.w) (X.A.mark (some (.ref e))) (eval (.Name x pa) X.env) Q E { t with heap := g3 } := by
        intro Q E q
        obtain ⟨hg, hdbg, inMod | ⟨notIn, isB, notName⟩⟩ := nm
        · exact ld_glob (X := X.suite e ((e, o3) :: (X.pn ++ pins))) S3 hg inMod q hdbg
        · exact ld_blt (X := X.suite e ((e, o3) :: (X.pn ++ pins))) S3 hg notIn isB q notName hdbg
      refine named (mt.here ?_)
      cases yes with
      | false => exact ih (w0 rfl)
      | true =>
        refine codeAny_handlers_suite_as (HandSPX.lands_againZ fly3 fun g4 fly4 up4 => ?_)
        have J4 : Inv X pins τ G { t with heap := g4 } := J.landed ground fly4.1 (up03.trans up4) eos bare
        obtain ⟨o4, v4, get4, z4, d4⟩ := fly4.there
        refine store_ok (X := X.suite e ((e, o4) :: (X.pn ++ pins))) (v := .ref e) (J4.suite get4 d4 ne outL outF) hN hi (.inl hln) rfl (fun s5 S5 => ?_) (.inr hln)
        refine wpAny_mono ((su e o4 cls d (X.pn ++ pins) z4 ⟨_, d4⟩).run [] s5 _ G _ S5 (w1 rfl e ne)) (fun fl s6 z => ?_) (fun _ _ z => False.elim z)
        have fin := suite_end (ok := ok) (pb := pb) hN hi hln z
        cases fl <;> exact fin
    | @bare x c ts s0 ss pa pb hs2 l2 nm su more ih =>
      intro w
      obtain ⟨yes, hy, w1, w0⟩ := w
      refine wpAny_handleBy_cons (codeAny_handlers_test ?_) (by intro q; cases q)
      have ty : PySem.W.Looks (model X.prog X.w) g3 (typeOf (.ref e)) cls := fun A Q E s k q => wpAny_typeOf_ref (k _ _ get3) (by rw [z3.1]; exact q)
      have mt := PySem.W.exm_one (M := model X.prog X.w) (J3.kIn) ty hy
      have named : ∀ {Q : Value → Shared → Prop} {E : Value → Shared → Prop}, Q c { t with heap := g3 } → wpAny (model X.prog X.w) (X.A.mark (some (.ref e))) (eval (.Name x pa) X.env) Q E { t with heap := g3 } := by
        intro Q E q
        obtain ⟨hg, hdbg, inMod | ⟨notIn, isB, notName⟩⟩ := nm
        · exact ld_glob (X := X.suite e ((e, o3) :: (X.pn ++ pins))) S3 hg inMod q hdbg
        · exact ld_blt (X := X.suite e ((e, o3) :: (X.pn ++ pins))) S3 hg notIn isB q notName hdbg
      refine named (mt.here ?_)
      cases yes with
      | false => exact ih (w0 rfl)
      | true =>
        refine codeAny_handlers_suite (HandSPX.lands_againZ fly3 fun g4 fly4 up4 => ?_)
        have J4 : Inv X pins τ G { t with heap := g4 } := J.landed ground fly4.1 (up03.trans up4) eos bare
        obtain ⟨o4, v4, get4, z4, d4⟩ := fly4.there
        refine wpAny_mono ((su e o4 cls d (X.pn ++ pins) z4 ⟨_, d4⟩).run [] _ _ G _ (J4.suite get4 d4 ne outL outF) (w1 rfl e ne)) (fun fl s6 z => ?_) (fun _ _ z => False.elim z)
        cases fl with
        | ret u =>
          obtain ⟨v, τ6, G6, S6, r, y⟩ := z
          exact ⟨v, τ6, G6, S6.unsuite ok, r, y⟩
        | next =>
          obtain ⟨τ6, G6, S6, y⟩ := z
          exact ⟨τ6, G6, S6.unsuite ok, y⟩
        | brk =>
          obtain ⟨τ6, G6, S6, y⟩ := z
          exact ⟨τ6, G6, S6.unsuite ok, y⟩
        | cont =>
          obtain ⟨τ6, G6, S6, y⟩ := z
          exact ⟨τ6, G6, S6.unsuite ok, y⟩
  exact main hh wish
end
end L2

set_option Elab.async false
set_option linter.all false
set_option maxRecDepth 100000
set_option maxHeartbeats 8000000
/-! k14: what is refused, by a method, by a class -/
namespace L2
open PySem
section
variable {X : Cx} {CX : CXT} {k : Nat} {f C : Addr} {fd : FuncData} {ps : List Str} {sp : Sp} {E : St → XK} {x m : Str} {p pos apos : Pos} {e o : Expr} {es : List Expr} {ta : TE} {t : TA}
def tMakeS (C : Addr) (sp : Sp) (E : St → XK) (t : TA) : TE := fun σ H Q => t σ H fun vs H1 => ∀ x dx, H1 x = none → H1 dx = none → dx ≠ x →
  sp (.ref x :: vs) (upd (upd H1 dx (.own x)) x (.ins C dx [])) (fun v H2 => v = .non ∧ Q (.ref x) H2) (E σ)
theorem run_makeS {pins : List (Addr × Obj)} {σ : St} {H : Hp} {s : Shared} {Q : VK} {us : List Value} {vs : List V} (M : Mk X.K C f) (F : FnOk X.prog X.w X.K X.mg X.base CX k f fd ps sp) (hr : Room (k + 1) X.A) (hb : Binds X.K fd ps [])
    (hx : PassesAt CX X σ (E σ)) (I : Inv X pins σ H s) (r : Vals vs us)
    (h : ∀ x dx, H x = none → H dx = none → dx ≠ x → sp (.ref x :: vs) (upd (upd H dx (.own x)) x (.ins C dx [])) (fun v H2 => v = .non ∧ Q (.ref x) H2) (E σ)) :
    wpAny (model X.prog X.w) X.A (call (.ref C) us) (EP X pins σ Q) X.xe s := by
  have hq := h (s.heap.objs.size + 1) s.heap.objs.size (I.hok.fresh (Nat.le_succ _)) (I.hok.fresh (Nat.le_refl _)) (Nat.ne_of_lt (Nat.lt_succ_self _))
  have I2 := Inv.made (C := C) I
  have r2 : Vals (V.ref (s.heap.objs.size + 1) :: vs) (Value.ref (s.heap.objs.size + 1) :: us) := .cons rfl r
  have hl : (Value.ref (s.heap.objs.size + 1) :: us).length = ps.length := by
    have e := r2.length
    rw [F.len _ _ _ _ hq] at e
    exact e.symm
  have b := hb _ (Value.ref (s.heap.objs.size + 1) :: us) I2.kIn (by rw [List.append_nil]; exact hl)
  rw [List.append_nil] at b
  refine wpAny_call (make_map (f := f) I.kIn M.makes M.init (beq_iff_eq.mp M.fn) (codeAny_mono (F.run _ X.stack _ _ ⟨Value.ref (s.heap.objs.size + 1) :: us, []⟩ (Value.ref (s.heap.objs.size + 1) :: us) _ _ (E σ) (hr.make C us [])
    (I2.env0.make C us []) b r2 hq) fun r s' hq' => ?_))
  cases r with
  | error e => exact hx pins _ _ e s' I2 hq'
  | ok fl =>
    cases fl with
    | ret u =>
      obtain ⟨v, H', I3, rv, ev, q3⟩ := I2.after hq'
      subst ev
      exact ⟨rv, ⟨V.ref (s.heap.objs.size + 1), H', I3, rfl, q3⟩⟩
    | next => exact False.elim hq'
    | brk => exact False.elim hq'
    | cont => exact False.elim hq'
theorem pe_makeS (M : Mk X.K C f) (F : FnOk X.prog X.w X.K X.mg X.base CX k f fd ps sp) (hr : Room (k + 1) X.A) (hg : Gl X x) (hm : X.mg x = some (.ref C)) (hb : Binds X.K fd ps []) (hx : ∀ σ, PassesAt CX X σ (E σ))
    (ha : PA X (e :: es) t) (hdb : (x == ("__debug__" : Str)) = false := by decide) (he : starEach (e :: es) X.env = (false, eval e X.env) :: starEach es X.env := by rfl) (hpl : (backTo pos (starEach es X.env)).any (·.1) = false := by rfl) :
    PE X (.Call (.Name x p) (e :: es) [] pos) (tMakeS C sp E t) := by
  refine ⟨fun pins s σ H Q I h => ?_⟩
  refine wpAny_Call_Name_kw (ld_glob I hg hm ?_ hdb)
  refine PySem.W.callWith_K (h₀ := X.base) I.ok.mod.kin M.kp (thn (ha.run pos pins s σ H _ I h) fun us s1 ⟨vs, H1, I1, r, q⟩ => ⟨I1.kIn, ?_⟩) he hpl
  exact run_makeS M F hr hb (hx σ) I1 r q
/-- o.m(..), which may raise -/
def tMethX (C : Addr) (m : Str) (sp : Sp) (E : St → XK) (ta : TE) (t : TA) : TE := fun σ H Q => ta σ H fun x H1 => ∃ a dx fs, x = .ref a ∧ H1 a = some (.ins C dx fs) ∧ fs.lookup m = none ∧
  t σ H1 fun vs H2 => sp (x :: vs) H2 Q (E σ)
theorem pe_methX {pl : Sem Bool} (he : PE X o ta) (c : Cls X.K C) (hm : Meth X.K C m f) (F : FnOk X.prog X.w X.K X.mg X.base CX k f fd ps sp) (hr : Room k X.A) (hb : Binds X.K fd ps []) (hx : ∀ σ, PassesAt CX X σ (E σ)) (ha : PA X (e :: es) t)
    (hst : starEach (e :: es) X.env = (false, eval e X.env) :: starEach es X.env := by rfl) (hpl : (backTo pos (starEach es X.env)).any (·.1) = false := by rfl)
    (ht : eval (.Call (.Attribute o m apos) (e :: es) [] pos) X.env = (do
      let ov ← eval o X.env
      standAt apos.atName
      let (f, first) ← holding [ov] (getMethod ov m pl)
      callWith pos f first (backTo pos (starEach (e :: es) X.env)) (backToKw pos (keywordEach [] X.env))) := by rfl) :
    PE X (.Call (.Attribute o m apos) (e :: es) [] pos) (tMethX C m sp E ta t) := by
  refine ⟨fun pins s σ H Q I h => ?_⟩
  refine PySem.W.methodCall_KW (pl := pl) (thn (he.run pins s σ H _ I h) fun u s1 ⟨x, H1, I1, rx, a, dx, fs, ex, ea, l, q⟩ => ?_) ht
  subst ex
  obtain rfl : u = Value.ref a := rx
  refine getmeth_ok I1 ea c hm l ?_
  refine PySem.W.callWith_K (first := [.ref a]) (h₀ := X.base) I.ok.mod.kin hm.kp (thn (ha.run pos pins s1 σ H1 _ I1 q) fun us s2 ⟨vs, H2, I2, r, q2⟩ => ⟨I2.kIn, ?_⟩) hst hpl
  exact run_fnS (us := .ref a :: us) (vs := .ref a :: vs) F hr hb (hx σ) I2 (.cons rfl r) q2
end
end L2

set_option Elab.async false
set_option linter.all false
set_option maxRecDepth 100000
set_option maxHeartbeats 8000000
/-! k14: what a code tells of lines -/
namespace K14
open PySem L2
abbrev sTold : Stmt := top 77
def spCodeT (C : Addr) (CL CF CM : Addr) : Sp := fun vs H Q E => ∃ (p dx : Addr) (u : V) (x : Str) (rows : List Str), vs = [.ref p, .str "take", u, .str x] ∧ H p = some (.ins C dx []) ∧ x.length + 2 ≤ sizeLine ∧ linesM x = rows ∧ rows.length ≤ 48 ∧ (∀ r ∈ rows, RowOk r) ∧
  (∀ n, badGo "take" rows 0 [] = some n → ∀ d H', But p H H' → H' d = some (.xd [("line", .int (n : Nat))]) → E (.ref CL) (some d) H') ∧
  (badGo "take" rows 0 [] = none → (∀ H', But p H H' → Q .non H') ∧ ∀ cls d H', But p H H' → (cls = .ref CF ∨ cls = .ref CM) → E cls d H')
def toldN (rows : List Str) : Nat := (badGo "take" rows 0 []).getD 0
/-- rows that may be told of -/
structure TextOk (rows : List Str) : Prop where
  many : rows.length ≤ 40
  ok : ∀ r ∈ rows, RowOk r
  len : ∀ r ∈ rows, r.length ≤ 500
  lines : linesM (Txt.join "\n" rows) = rows
def spTold (K : PySem.W.Frag) : Sp := fun vs H Q _ => ∃ (L : Addr) (rows : List Str), vs = [.ref L] ∧ H L = some (.lst (rows.map V.str)) ∧ TextOk rows ∧ ∀ H', Same H H' → Q (.int (toldN rows : Nat)) H'
theorem take_in : ("take" : Str) ∈ kindsL := by decide +kernel
theorem len_join1 (y : Str) : ∀ ls : List Str, (Str.join y ls).length ≤ (ls.map (·.length)).sum + ls.length * y.length
  | [] => Nat.zero_le _
  | [x] => by
    show x.length ≤ (x.length + 0) + 1 * y.length
    omega
  | x :: z :: r => by
    have ih := len_join1 y (z :: r)
    have e : (Str.join y (x :: z :: r)).length = x.length + y.length + (Str.join y (z :: r)).length := by
      have h : TL.tl (Str.join y (x :: z :: r)) = TL.tl x ++ TL.tl y ++ TL.tl (Str.join y (z :: r)) := by
        show TL.tl (x ++ y ++ Str.join y (z :: r)) = _
        rw [TL.tl_append, TL.tl_append]
      have h2 := congrArg List.length h
      rw [List.length_append, List.length_append] at h2
      exact h2
    rw [e, List.map_cons, List.sum_cons, List.length_cons, Nat.succ_mul]
    omega
theorem sum_le {ls : List Str} {n : Nat} : (∀ x ∈ ls, x.length ≤ n) → (ls.map (·.length)).sum ≤ n * ls.length := by
  induction ls with
  | nil => intro _; exact Nat.zero_le _
  | cons x r ih =>
    intro h
    have h1 := ih fun y hy => h y (List.mem_cons_of_mem x hy)
    have h2 := h x (List.mem_cons_self ..)
    rw [List.map_cons, List.sum_cons, List.length_cons, Nat.mul_succ]
    omega
theorem text_len {ls : List Str} (T : TextOk ls) : (ls.map (·.length)).sum + ls.length * ("\n" : Str).length ≤ 16777216 ∧ (Txt.join "\n" ls).length + 2 ≤ sizeLine := by
  have e : ("\n" : Str).length = 1 := by decide +kernel
  have h1 := sum_le T.len
  have h2 := len_join1 "\n" ls
  have h3 := T.many
  rw [e] at h2 ⊢
  rw [TL.join_eq]
  refine ⟨by omega, Nat.le_trans (show _ ≤ 30000 by omega) (by decide)⟩
abbrev rJoin (K : PySem.W.Frag) : V → List V → Hp → VK → Prop := fun x xs H Q => ∃ a p, ∃ ys : List Str, x = .str a ∧ xs = [.ref p] ∧ (SqL K H p (ys.map V.str) ∨ SqT K H p (ys.map V.str)) ∧ (ys.map (·.length)).sum + ys.length * a.length ≤ 16777216 ∧ Q (.str (Txt.join a ys)) H
section
variable {P : Program} {w : World} {K : PySem.W.Frag} {mg : Str → Option Value} {base : Heap}
theorem ok_codeT {f C CO CL CF CM fS fP : Addr} {fd : FuncData} (GI : FnOk P w K mg base (L2.CX P w) 8 f fd ["self", "kind", "rules", "text"] (spBI K C CF))
    (GL : FnOk P w K mg base (L2.CX P w) 8 f fd ["self", "kind", "rules", "text"] (spBX C fS fP (spOutlBad K CL fS fP)))
    (GF : FnOk P w K mg base (L2.CX P w) 8 f fd ["self", "kind", "rules", "text"] (spBX C fS fP (spOutlIfs K CM fS fP))) :
    FnOk P w K mg base (L2.CX P w) 8 f fd ["self", "kind", "rules", "text"] (spCodeT C CL CF CM) := by
  have all : ∀ vs H Q E, spCodeT C CL CF CM vs H Q E → spBI K C CF vs H Q E ∨ spBX C fS fP (spOutlBad K CL fS fP) vs H Q E ∨ spBX C fS fP (spOutlIfs K CM fS fP) vs H Q E := by
    intro vs H Q E h
    obtain ⟨p, dx, u, x, rows, rfl, hp, hx, hr, hn, ho, kB, kG⟩ := h
    rcases read_or_bad "take" rows [] 0 [] with ⟨⟨sts, hg⟩, hb⟩ | ⟨n, hb⟩
    · obtain ⟨kQ, kE⟩ := kG hb
      by_cases hi : sts.countP isIf ≤ 7
      · obtain ⟨tg, R, h1, h2, h3⟩ := read_ways hg hi
        refine .inl ⟨p, dx, u, x, "take", rows, sts, tg, R, rfl, hp, take_in, hx, hr, hn, ho, hg, hi, h1, h2, h3, fun _ H' b => kQ H' b, fun m _ _ d H' b _ _ => kE _ _ _ b (.inl rfl)⟩
      · refine .inr (.inr ⟨p, dx, u, x, "take", rfl, hp, take_in, fun H1 fl b gp => ?_⟩)
        exact ⟨x, "take", 48, 7, rows, sts, rfl, take_in, hx, hr, by omega, by omega, ho, hg, by omega, fun d H' s nd hd => kE _ _ _ (b.trans (But.same s)) (.inr rfl)⟩
    · refine .inr (.inl ⟨p, dx, u, x, "take", rfl, hp, take_in, fun H1 fl b gp => ?_⟩)
      exact ⟨x, "take", 48, 7, rows, n, rfl, take_in, hx, hr, by omega, by omega, ho, hb, fun d H' s nd hd => kB n hb _ _ (b.trans (But.same s)) hd⟩
  exact (FnOk.or GI (FnOk.or GL GF)).imp all
abbrev nmTold : List Str := ["_law_lines_here", "e"]
theorem scTold : FnScope nmTold ["_law_lines_here"] (defScope sTold) := ⟨rfl, rfl, rfl, by decide +kernel, rfl, by decide +kernel, by decide +kernel⟩
theorem ok_told {f fI fR C CB CL CF CM CO : Addr} {fd fdI fdR : FuncData} (F : Fun K "_law_told" "_law_told" sTold f fd)
    (M : Mk K C fI) (GI : FnOk P w K mg base (L2.CX P w) 8 fI fdI ["self", "kind", "rules", "text"] (spCodeT C CL CF CM)) (bI : Binds K fdI ["self", "kind", "rules", "text"] []) (gC : mg "BlockCode" = some (.ref C))
    (MB : Mk K CB fR) (GR : FnOk P w K mg base CX0 3 fR fdR ["self", "unit", "least"] (spBR K CB)) (bR : Binds K fdR ["self", "unit", "least"] []) (gB : mg "BlockRules" = some (.ref CB))
    (gL : mg "BadLine" = some (.ref CL)) (gO : mg "BlockError" = some (.ref CO)) (xLL : PySem.W.exmOne K (.ref CL) (.ref CL) = some true) (xFL : PySem.W.exmOne K (.ref CF) (.ref CL) = some false) (xML : PySem.W.exmOne K (.ref CM) (.ref CL) = some false)
    (xFO : PySem.W.exmOne K (.ref CF) (.ref CO) = some true) (xMO : PySem.W.exmOne K (.ref CM) (.ref CO) = some true) (xf : XfC K CL) (nl : PySem.W.findIn K (.ref CL) "line" = some none) :
    FnOk P w K mg base CX0 10 f fd ["_law_lines_here"] (spTold K) := by
  refine F.ok scTold (fun vs H Q E h => ?_) (fun cdv A outer s H vs Q E hr h => ?_)
  · obtain ⟨L, rows, rfl, _⟩ := h
    rfl
  · obtain ⟨L, rows, rfl, hL, T, k⟩ := h
    have hr9 : Room 9 _ := hr.mono (by decide)
    have hr4 : Room 4 _ := hr.mono (by decide)
    obtain ⟨hs, hj⟩ := text_len T
    refine ⟨_, pss_cons (ps_try_mixed (i := 1) rfl rfl scTold.nd rfl rfl takes0
        (fun W pn xe tk _ => pss_one (ps_expr (by exact (pe_makeS (t := tCons (tC (.str "take")) (tCons (tMake CB (spBR K CB) [] E0 (tCons (tC (.int 1)) (tCons (tC (.int 4)) tNil))) (tCons (tM1 (rJoin K) (tC (.str "\n")) (tVar 0)) tNil))) M GI hr9 rfl gC bI (fun σ => passAt tk σ) (by exact (pa_cons pe_str (pa_cons (by exact (pe_make MB GR hr4 (by rfl) gB bR .nil pass0 (pa_cons pe_int (pa_cons pe_int pa_nil)))) (pa_cons (by exact (pe_join pe_str (pv 0))) pa_nil))))))))
        (.named ⟨rfl, by decide, Or.inl gL⟩ (fun e oe cls d pn hz hf => pss_one (ps_ret (by exact (pe_xf xf nl hz hf (pv 1)))))
        (.bare ⟨rfl, by decide, Or.inl gO⟩ (fun e oe cls d pn hz hf => pss_one (ps_ret pe_int)) .nil)))
      (pss_one (ps_ret pe_int)), ?_⟩
    refine fun y dy ny nd0 ne0 => ?_
    refine ⟨y, dy, rfl, upd_same, fun G1 b1 => ⟨rfl, ?_⟩⟩
    have s0 : Same H G1 := But.fresh ((Same.new nd0).trans (Same.new (by rw [upd_ne ne0.symm]; exact ny))) b1 ny
    refine ⟨⟨_, rfl⟩, _, rfl, ("\n" : Str), L, rows, rfl, rfl, .inl (SqL.of (s0 _ _ hL)), hs, fun p dx np ndx ne => ?_⟩
    have sP : Same G1 (upd (upd G1 dx (.own p)) p (.ins C dx [])) := (Same.new (o := .own p) ndx).trans (Same.new (o := .ins C dx []) (by rw [upd_ne ne.symm]; exact np))
    refine ⟨p, dx, .ref y, Txt.join "\n" rows, rows, rfl, upd_same, hj, T.lines, by have := T.many; omega, T.ok, fun n hb d G5 b5 gd => ?_, fun hb => ⟨fun G5 b5 => ⟨rfl, ?_⟩, fun cls d G5 b5 hc => ?_⟩⟩
    · have s5 := s0.trans (But.fresh sP b5 np)
      refine ⟨true, xLL, fun _ e he => ?_, fun z => Bool.noConfusion z⟩
      refine ⟨_, rfl, rfl, rfl, d, _, _, rfl, gd, (show List.lookup ("line" : Str) [(("line" : Str), V.int (n : Nat))] = some (V.int (n : Nat)) by kernel_rfl), ?_⟩
      have e : toldN rows = n := by unfold toldN; rw [hb]; rfl
      rw [← e]
      exact k _ s5
    · have e : toldN rows = 0 := by unfold toldN; rw [hb]; rfl
      have z := k _ (s0.trans (But.fresh sP b5 np))
      rw [e] at z
      exact z
    · have e : toldN rows = 0 := by unfold toldN; rw [hb]; rfl
      have z := k _ (s0.trans (But.fresh sP b5 np))
      rw [e] at z
      rcases hc with rfl | rfl
      · exact ⟨false, xFL, fun z => Bool.noConfusion z, fun _ => ⟨true, xFO, fun _ e he => z, fun z => Bool.noConfusion z⟩⟩
      · exact ⟨false, xML, fun z => Bool.noConfusion z, fun _ => ⟨true, xMO, fun _ e he => z, fun z => Bool.noConfusion z⟩⟩
end
end K14

set_option Elab.async false
set_option linter.all false
set_option maxRecDepth 100000
set_option maxHeartbeats 8000000
/-! k14: words, numbers, sums: the mathematics -/
namespace K14
open PySem L2
/-- a sign that may stand in a line -/
def okS (c : Nat) : Prop := c < 128 ∧ c ≠ 10
/-- a line or a word out of such signs, not too long -/
structure Txt1 (x : Str) (n : Nat) : Prop where
  ok : ∀ c ∈ TL.tl x, okS c
  len : x.length ≤ n
/-- a word of a line -/
structure Wo (w : Str) : Prop where
  ok : ∀ c ∈ TL.tl w, okS c
  sp : 32 ∉ TL.tl w
  len : w.length ≤ 600
def digB (w : Str) : Bool := !(TL.tl w).isEmpty && (TL.tl w).all fun c => decide (48 ≤ c ∧ c ≤ 57)
theorem uni_dig : ∀ c, c < 128 → PySem.Unicode.isDigit c = decide (48 ≤ c ∧ c ≤ 57) := by
  intro c hc
  have h : ∀ c, c < 128 → PySem.Unicode.isDigit c = decide (48 ≤ c ∧ c ≤ 57) := by decide +kernel
  exact h c hc
theorem len_tl (x : Str) : (TL.tl x).length = x.length := rfl
theorem all_cong {f g : Nat → Bool} : ∀ {l : List Nat}, (∀ c ∈ l, f c = g c) → l.all f = l.all g
  | [], _ => rfl
  | a :: r, h => by rw [List.all_cons, List.all_cons, h a (List.mem_cons_self ..), all_cong fun c hc => h c (List.mem_cons_of_mem _ hc)]
theorem all_arr {f g : Nat → Bool} {a : Array Nat} (h : ∀ c ∈ a.toList, f c = g c) : a.all f = a.toList.all g := by
  rw [← Array.all_toList]
  exact all_cong h
theorem isdigit_eq {w : Str} (h : ∀ c ∈ TL.tl w, c < 128) : Txt.isdigit w = digB w := by
  unfold Txt.isdigit digB
  have e : w.cps.all PySem.Unicode.isDigit = (TL.tl w).all fun c => decide (48 ≤ c ∧ c ≤ 57) := all_arr fun c hc => uni_dig c (h c hc)
  rw [e]
  congr 1
  have l := len_tl w
  cases q : TL.tl w with
  | nil => rw [q] at l; rw [← l]; rfl
  | cons a r => rw [q] at l; rw [← l]; rfl
theorem Wo.dig {w : Str} (h : Wo w) : Txt.isdigit w = digB w := isdigit_eq fun c hc => (h.ok c hc).1
theorem int_some {w : Str} (h : digB w = true) (hl : w.length ≤ 4300) : ∃ n, intText? w = some n := by
  unfold digB at h
  obtain ⟨h1, h2⟩ := Bool.and_eq_true_iff.mp h
  refine ⟨_, intText_digits (x := w) (fun c hc => ?_) (fun z => by rw [show TL.tl w = [] from z] at h1; cases h1) hl⟩
  exact of_decide_eq_true (List.all_eq_true.mp h2 c hc)
theorem Wo.wok {w : Str} (h : Wo w) : WOk w := by
  refine ⟨by have := h.len; omega, fun d l => int_some (by rw [← h.dig]; exact d) (by omega), ?_⟩
  have e : PyData.strOk w = true := by
    unfold PyData.strOk
    rw [Array.all_eq_true]
    intro i hi
    have := (h.ok _ (Array.getElem_mem_toList hi)).1
    exact decide_eq_true (by omega)
  simp [PyData.canLay0, e]
/-- the law's numbers -/
def numB (w : Str) : Bool := digB w && (decide (w.length ≤ 30) && (decide (w = "0") || !decide ((TL.tl w).head? = some 48)))
theorem zero_is : ("0" : Str) = ⟨#[48]⟩ := by decide +kernel
theorem starts0 {w : Str} : Txt.startswith w "0" = decide ((TL.tl w).head? = some 48) := by
  rw [zero_is]
  unfold Txt.startswith
  have h := StrLaws.subAt_one w 48 0
  rw [← List.head?_eq_getElem?] at h
  by_cases c : (TL.tl w).head? = some 48
  · obtain ⟨h1, h2⟩ := h.mpr c
    rw [h2, decide_eq_true c, decide_eq_true h1]
    rfl
  · rw [decide_eq_false c, Bool.and_eq_false_iff]
    by_cases l : 0 + (⟨#[48]⟩ : Str).length ≤ w.length
    · exact .inr (Bool.eq_false_iff.mpr fun z => c (h.mp ⟨l, z⟩))
    · exact .inl (decide_eq_false l)
theorem one_zero {w : Str} (h : digB w = true) : (decide (1 < w.length) && decide ((TL.tl w).head? = some 48)) = !(decide (w = "0") || !decide ((TL.tl w).head? = some 48)) := by
  have l := len_tl w
  by_cases z : w = "0"
  · subst z
    decide +kernel
  rw [decide_eq_false z, Bool.false_or, Bool.not_not]
  by_cases c : (TL.tl w).head? = some 48
  · rw [decide_eq_true c]
    have : 1 < w.length := by
      cases q : TL.tl w with
      | nil => rw [q] at c; cases c
      | cons a r =>
        rw [q] at c l
        have e : a = 48 := Option.some.inj c
        cases r with
        | nil => exact absurd (TL.ext_tl (by rw [q, e]; decide +kernel)) z
        | cons b r2 =>
          simp only [List.length_cons] at l
          omega
    rw [decide_eq_true this]
    rfl
  · rw [decide_eq_false c]
    exact Bool.and_false _
theorem num_some {w : Str} (h : Wo w) : (numM w).isSome = numB w := by
  unfold numM numB
  rw [h.dig, starts0]
  cases d : digB w with
  | false => rfl
  | true =>
    by_cases l : 30 < w.length
    · rw [if_pos (by rw [decide_eq_true l]; rfl), decide_eq_false (by omega)]
      rfl
    · rw [if_neg (by rw [decide_eq_false l]; simp), decide_eq_true (by omega : w.length ≤ 30), one_zero d]
      obtain ⟨n, e⟩ := int_some d (by omega)
      cases c : (decide (w = "0") || !decide ((TL.tl w).head? = some 48)) with
      | true => rw [if_neg (by simp), e]; rfl
      | false => rw [if_pos (by simp)]; rfl
end K14

set_option Elab.async false
set_option linter.all false
set_option maxRecDepth 100000
set_option maxHeartbeats 8000000
/-! k14: sums, alike -/
namespace K14
open PySem L2
theorem used_app (acc : Acc) (g : Int) (x y : Str) : (valV (usedL (acc ++ [(g, .str x)])) (.inr y : Key)).isSome = ((valV (usedL acc) (.inr y : Key)).isSome || decide (y = x)) := by
  rw [usedL_add]
  unfold valV
  rw [Option.isSome_map, Option.isSome_map, List.find?_append]
  show ((List.find? _ (usedL acc)).or (List.find? _ [((.inr x : Key), V.bl true)])).isSome = _
  rw [Option.isSome_or]
  congr 1
  rw [List.find?_cons]
  by_cases e : y = x
  · subst e
    simp
  · have e2 : ¬ ((.inr x : Key) = .inr y) := fun z => e (Sum.inr.inj z).symm
    simp [e, e2]
theorem used_num (acc : Acc) (n : Int) : (valV (usedL acc) (.inl n : Key)).isSome = false := by
  unfold valV
  rw [Option.isSome_map]
  induction acc with
  | nil => rfl
  | cons p r ih =>
    obtain ⟨g, v⟩ := p
    cases v with
    | str x =>
      show (List.find? _ (((.inr x : Key), V.bl true) :: usedL r)).isSome = false
      rw [List.find?_cons]
      have e2 : ¬ ((.inr x : Key) = .inl n) := fun z => by cases z
      simp only [e2, decide_false]
      exact ih
    | _ => exact ih
theorem used_int (acc : Acc) (g n : Int) (y : Str) : (valV (usedL (acc ++ [(g, .int n)])) (.inr y : Key)).isSome = (valV (usedL acc) (.inr y : Key)).isSome := by
  rw [usedL_add]
  show (valV (usedL acc ++ []) (.inr y : Key)).isSome = _
  rw [List.append_nil]
/-- terms of a sum: numbers, and names that were not there yet -/
def okGo : List Str → List Str → Bool
  | [], _ => true
  | t :: r, seen => if t ∈ namesL then !decide (t ∈ seen) && okGo r (seen ++ [t]) else numB t && okGo r seen
def sgnB (s : Str) : Bool := decide (s ∈ [("+" : Str), "-"])
theorem sum_go : ∀ (ps : List (Str × Str)) (acc : Acc) (seen : List Str), (∀ y, (valV (usedL acc) (.inr y : Key)).isSome = decide (y ∈ seen)) → (∀ p ∈ ps, Wo p.2) →
    (sumGo namesL ps acc).isSome = (ps.all (fun p => sgnB p.1) && okGo (ps.map (·.2)) seen)
  | [], acc, seen, _, _ => rfl
  | (s, t) :: r, acc, seen, hs, hw => by
    have ht : Wo t := hw (s, t) (List.mem_cons_self ..)
    have hr : ∀ p ∈ r, Wo p.2 := fun p hp => hw p (List.mem_cons_of_mem _ hp)
    have hn := num_some ht
    rw [List.all_cons, List.map_cons]
    unfold sumGo okGo termV
    by_cases h1 : t ∈ namesL
    · rw [if_pos h1, if_pos h1]
      dsimp only
      show (if (decide (s ∈ [("+" : Str), "-"]) && !(valV (usedL acc) (.inr t : Key)).isSome) = true then sumGo namesL r (acc ++ [(sgn s, .str t)]) else none).isSome = _
      rw [hs t]
      unfold sgnB
      by_cases h2 : t ∈ seen
      · rw [decide_eq_true h2]
        simp
      · rw [decide_eq_false h2]
        by_cases h4 : s ∈ [("+" : Str), "-"]
        · rw [decide_eq_true h4]
          simp only [Bool.not_false, Bool.and_self, if_true, Bool.true_and]
          exact sum_go r _ _ (fun y => by rw [used_app, hs y]; by_cases q : y ∈ seen <;> by_cases q2 : y = t <;> simp [q, q2]) hr
        · rw [decide_eq_false h4]
          rfl
    · rw [if_neg h1, if_neg h1]
      unfold sgnB
      cases e : numM t with
      | none =>
        rw [e] at hn
        have hn : false = numB t := hn
        rw [← hn]
        simp
      | some n =>
        rw [e] at hn
        have hn : true = numB t := hn
        rw [← hn]
        show (if (decide (s ∈ [("+" : Str), "-"]) && !(valV (usedL acc) (.inl n : Key)).isSome) = true then sumGo namesL r (acc ++ [(sgn s, .int n)]) else none).isSome = _
        rw [used_num]
        by_cases h4 : s ∈ [("+" : Str), "-"]
        · rw [decide_eq_true h4]
          simp only [Bool.not_false, Bool.and_self, if_true, Bool.true_and]
          exact sum_go r _ _ (fun y => by rw [used_int, hs y]) hr
        · rw [decide_eq_false h4]
          rfl
def evens : List Str → List Str
  | [] => []
  | [a] => [a]
  | a :: _ :: r => a :: evens r
def odds : List Str → List Str
  | _ :: s :: r => s :: odds r
  | _ => []
theorem prs_even : ∀ (ws : List Str) (s0 : Str), ws.length % 2 = 1 → (prs (s0 :: ws)).map (·.2) = evens ws ∧ (prs (s0 :: ws)).map (·.1) = s0 :: odds ws
  | [], _, h => by cases h
  | [a], s0, _ => ⟨rfl, rfl⟩
  | a :: s :: r, s0, h => by
    have ih := prs_even r s (by simp only [List.length_cons] at h; omega)
    constructor
    · show a :: (prs (s :: r)).map (·.2) = a :: evens r
      rw [ih.1]
    · show s0 :: (prs (s :: r)).map (·.1) = s0 :: s :: odds r
      rw [ih.2]
theorem even_mem : ∀ {ws : List Str} {w : Str}, w ∈ evens ws → w ∈ ws
  | [], _, h => h
  | [a], _, h => h
  | a :: s :: r, w, h => by
    rcases List.mem_cons.mp h with e | h
    · rw [e]; exact List.mem_cons_self ..
    · exact List.mem_cons_of_mem _ (List.mem_cons_of_mem _ (even_mem h))
/-- a right sum, as the law has it -/
def sumB (ws : List Str) : Bool := decide (ws.length % 2 = 1 ∧ ws.length ≤ 7) && ((odds ws).all sgnB && okGo (evens ws) [])
theorem sum_some {ws : List Str} (h : ∀ w ∈ ws, Wo w) : (sumM ws namesL).isSome = sumB ws := by
  unfold sumM sumB
  by_cases hl : ws.length % 2 = 0 ∨ 7 < ws.length
  · rw [if_pos hl, decide_eq_false (by omega)]
    rfl
  · rw [if_neg hl, decide_eq_true (by omega), Bool.true_and]
    obtain ⟨e1, e2⟩ := prs_even ws "+" (by omega)
    have hp : ∀ p ∈ prs (("+" : Str) :: ws), Wo p.2 := fun p hp => h _ (even_mem (by rw [← e1]; exact List.mem_map.mpr ⟨p, hp, rfl⟩))
    rw [sum_go _ [] [] (fun y => by simp [usedL, valV]) hp, e1]
    congr 1
    have e3 : (prs (("+" : Str) :: ws)).all (fun p => sgnB p.1) = ((prs (("+" : Str) :: ws)).map (·.1)).all sgnB := by rw [List.all_map]; rfl
    rw [e3, e2, List.all_cons, show sgnB "+" = true by decide +kernel, Bool.true_and]
/-- what is no number -/
def nn (ts : List Str) : List Str := ts.filter fun t => !numB t
theorem names_num : ∀ t ∈ namesL, numB t = false := by decide +kernel
theorem okGo_eq : ∀ (ts seen : List Str), okGo ts seen = decide ((∀ t ∈ nn ts, t ∈ namesL ∧ t ∉ seen) ∧ (nn ts).Nodup)
  | [], seen => (decide_eq_true (⟨fun t ht => (nomatch ht), List.nodup_nil⟩ : (∀ t ∈ nn [], t ∈ namesL ∧ t ∉ seen) ∧ (nn []).Nodup)).symm
  | t :: r, seen => by
    unfold okGo
    by_cases h1 : t ∈ namesL
    · rw [if_pos h1]
      have e : nn (t :: r) = t :: nn r := by
        unfold nn
        rw [List.filter_cons, names_num t h1]
        rfl
      rw [e, okGo_eq r (seen ++ [t])]
      by_cases h2 : t ∈ seen
      · rw [decide_eq_true h2]
        exact (decide_eq_false (fun z => (z.1 t (List.mem_cons_self ..)).2 h2)).symm
      · rw [decide_eq_false h2, Bool.not_false, Bool.true_and]
        refine decide_eq_decide.mpr ⟨fun ⟨a, b⟩ => ⟨fun u hu => ?_, List.nodup_cons.mpr ⟨fun z => (a t z).2 (List.mem_append_right _ (List.mem_singleton.mpr rfl)), b⟩⟩, fun ⟨a, b⟩ => ⟨fun u hu => ⟨(a u (List.mem_cons_of_mem _ hu)).1, fun z => ?_⟩, (List.nodup_cons.mp b).2⟩⟩
        · rcases List.mem_cons.mp hu with rfl | hu
          · exact ⟨h1, h2⟩
          · exact ⟨(a u hu).1, fun z => (a u hu).2 (List.mem_append_left _ z)⟩
        · rcases List.mem_append.mp z with z | z
          · exact (a u (List.mem_cons_of_mem _ hu)).2 z
          · rw [List.mem_singleton.mp z] at hu
            exact (List.nodup_cons.mp b).1 hu
    · rw [if_neg h1]
      cases q : numB t with
      | true =>
        have e : nn (t :: r) = nn r := by
          unfold nn
          rw [List.filter_cons, q]
          rfl
        rw [e, okGo_eq r seen, Bool.true_and]
      | false =>
        have e : nn (t :: r) = t :: nn r := by
          unfold nn
          rw [List.filter_cons, q]
          rfl
        rw [e, Bool.false_and]
        exact (decide_eq_false (fun z => h1 (z.1 t (List.mem_cons_self ..)).1)).symm
end K14

set_option Elab.async false
set_option linter.all false
set_option maxRecDepth 100000
set_option maxHeartbeats 8000000
/-! k14, the law: numbers -/
namespace K14
open PySem L2
abbrev sIsNum : Stmt := top 71
def spIsNum : Sp := fun vs H Q _ => ∃ w : Str, vs = [.str w] ∧ Wo w ∧ ∀ H', Same H H' → Q (.bl (numB w)) H'
abbrev nmIsNum : List Str := ["_law_word", "_law_sign"]
theorem scIsNum : FnScope nmIsNum ["_law_word"] (defScope sIsNum) := ⟨rfl, rfl, rfl, by decide +kernel, rfl, by decide +kernel, by decide +kernel⟩
def noDig (c : Nat) : Bool := !decide (c ∈ TL.tl ("0123456789" : Str))
theorem noDig_eq {c : Nat} (h : c < 128) : noDig c = !decide (48 ≤ c ∧ c ≤ 57) := by
  have z : ∀ c, c < 128 → noDig c = !decide (48 ≤ c ∧ c ≤ 57) := by decide +kernel
  exact z c h
def sgnV (c : Nat) : V := .str ⟨#[c]⟩
section
variable {P : Program} {w : World} {K : PySem.W.Frag} {mg : Str → Option Value} {base : Heap}
theorem flat_sgn (K : PySem.W.Frag) (H : Hp) : ∀ cs : List Nat, DpAll K H (cs.map sgnV) (cs.map fun c => .str ⟨#[c]⟩)
  | [] => .nil
  | c :: r => .cons (.str _) (flat_sgn K H r)
theorem lay_strs : ∀ {ws : List Str}, (∀ w ∈ ws, PyData.strOk w = true) → PyData.canLayAll0 (ws.map PyData.str) = true
  | [], _ => rfl
  | w :: r, h => by
    rw [List.map_cons, PyData.canLayAll0, Bool.and_eq_true]
    refine ⟨?_, lay_strs fun x hx => h x (List.mem_cons_of_mem _ hx)⟩
    simp [PyData.canLay0, h w (List.mem_cons_self ..)]
theorem shaped_strs {ws : List Str} (h : ∀ w ∈ ws, PyData.strOk w = true) : SeqAt.shaped (.list (ws.map PyData.str)) = true := by
  unfold SeqAt.shaped
  have h1 : (PyData.list (ws.map PyData.str)).canLay0 = true := by
    simp only [PyData.canLay0]
    exact lay_strs h
  have h2 : (PyData.list (ws.map PyData.str)).depth = 1 := by
    simp only [PyData.depth, depAll]
  rw [h1, h2]
  decide
theorem sgn_ok {c : Nat} (h : c < 128) : PyData.strOk ⟨#[c]⟩ = true := by
  unfold PyData.strOk
  rw [Array.all_eq_true]
  intro i hi
  have e : i = 0 := by
    have : i < 1 := hi
    omega
  subst e
  exact decide_eq_true (show c < 0x110000 by omega)
theorem eqv_nil (ds : List PyData) : PyData.eqv (.list ds) (.list []) = ds.isEmpty := by
  cases ds <;> simp [PyData.eqv, PyData.eqvAll]
theorem ok_isnum {f : Addr} {fd : FuncData} (F : Fun K "_law_is_number" "_law_is_number" sIsNum f fd) (T : TxtN mg) : FnOk P w K mg base CX0 1 f fd ["_law_word"] spIsNum := by
  have sc := scIsNum
  refine F.ok scIsNum (fun vs H Q E h => ?_) (fun cdv A outer s H vs Q E hr h => ?_)
  · obtain ⟨w, rfl, _⟩ := h
    rfl
  · obtain ⟨w, rfl, hw, k⟩ := h
    refine ⟨_, pss_cons (ps_if (PW.pt (pw_or (pt_cmpR op_eq (pv 0) pe_str (nomark _)) (pw_or (pt_cmpR (op_neD hr.units) (pe_lc (own := [("_law_sign", 1)]) (g := gName 1) (te := tVar 1) rfl sc.nd (by exact pi_str (pv 0)) (blkOk_by (own := [("_law_sign", 1)]) (N := nmIsNum) (sc := defScope sIsNum) (by decide +kernel)) (fun _ _ _ _ _ => pg_name (i := 1) sc.nd rfl (Or.inl rfl)) (fun _ _ _ _ _ => pts_one (pt_cmpR op_notIn_sign (pv 1) pe_str (by rfl))) (fun _ _ _ _ _ => pv 1)) (pe_lst pa_nil) (nomark _))
        (pw_or1 (pt_cmpR op_gt (pe_callB call_len_str (by rfl) T.len PySem.boot_len (pa_cons (pv 0) pa_nil)) pe_int (nomark _)))))) (pss_one (ps_ret pe_bl)) pss_nil)
      (pss_one (ps_ret (pe_or (pe_cmpR op_eq (pv 0) pe_str (nomark _)) (pe_one (pe_cmpR op_ne (pe_ix ix_str (pv 0) pe_int (fun _ _ => rfl)) pe_str (nomark _)))))), ?_⟩
    have hlen := hw.len
    have cap : w.length ≤ sizeLine := Nat.le_of_lt (small1000 (by omega))
    refine ⟨_, rfl, rfl, _, rfl, ?_⟩
    by_cases c0 : w = ""
    · refine ifT3 (decide_eq_true (congrArg V.str c0)) ?_
      refine iteT ?_
      have z := k H (fun _ _ e => e)
      rw [show numB w = false by rw [c0]; decide +kernel] at z
      exact z
    refine ifF3 (decide_eq_false fun z => c0 (V.str.inj z)) ?_
    refine ⟨_, rfl, w, rfl, fun D nD => ?_⟩
    have sD := Same.new (o := .lst []) nD
    have hc : ∀ c ∈ TL.tl w, c < 128 := fun c hc => (hw.ok c hc).1
    have hne : TL.tl w ≠ [] := fun z => c0 (TL.ext_tl (by rw [z]; decide +kernel))
    refine lc_it (walk_str (z := w)) (fun i G => Same H G ∧ G D = some (.lst ((((TL.tl w).take i).filter noDig).map sgnV))) ⟨sD, upd_same⟩ (fun _ _ _ _ => trivial) ?_ ?_
    · rintro i x G G' hi ⟨s1, g1⟩ ⟨rfl, c, hci, rfl⟩
      have hci2 : (TL.tl w)[i]? = some c := by rw [← hci]; exact Array.getElem?_toList
      have more : (((TL.tl w).take (i + 1)).filter noDig) = (((TL.tl w).take i).filter noDig) ++ (if noDig c = true then [c] else []) := by
        rw [take_more hci2, List.filter_append, List.filter_cons, List.filter_nil]
      have hfl : (((TL.tl w).take i).filter noDig).length ≤ 600 := Nat.le_trans (List.length_filter_le _ _) (Nat.le_trans (List.length_take_le _ _) (by have := hi; have e : w.cps.size = w.length := rfl; omega))
      refine ⟨rfl, ?_⟩
      refine ⟨_, rfl, c, _, rfl, rfl, _, rfl, ?_⟩
      by_cases q : noDig c = true
      · refine ifT3 q ?_
        refine ⟨_, rfl, _, g1, small1000 (by rw [List.length_map]; omega), Same.write s1 nD, ?_⟩
        rw [upd_same, more, if_pos q, List.map_append]
        rfl
      · refine ifF3 (Bool.eq_false_iff.mpr q) ?_
        refine ⟨s1, ?_⟩
        rw [more, if_neg q, List.append_nil]
        exact g1
    rintro G ⟨s1, g1⟩
    rw [show w.cps.size = (TL.tl w).length from rfl, List.take_length] at g1
    obtain ⟨cs, ecs⟩ : ∃ cs, cs = (TL.tl w).filter noDig := ⟨_, rfl⟩
    rw [← ecs] at g1
    have hcs : ∀ c ∈ cs, c < 128 := fun c h => hc c (by rw [ecs] at h; exact (List.mem_filter.mp h).1)
    refine ⟨(by show 0 ≤ sizeLine; decide), fun N nN => ?_⟩
    have sN := Same.new (o := .lst []) nN
    have s2 := s1.trans sN
    refine ⟨.list (cs.map fun c => .str ⟨#[c]⟩), .list [], .lst (SqL.of (sN _ _ g1)) (flat_sgn _ _ cs), .lst (SqL.of upd_same) .nil, ?_, by decide +kernel, ?_⟩
    · have z := shaped_strs (ws := cs.map fun c => ⟨#[c]⟩) (fun w hw => by obtain ⟨c, hc, rfl⟩ := List.mem_map.mp hw; exact sgn_ok (hcs c hc))
      rw [List.map_map] at z
      exact z
    rw [eqv_nil]
    have dig : digB w = cs.isEmpty := by
      unfold digB
      have e1 : (TL.tl w).isEmpty = false := by
        cases q : TL.tl w with
        | nil => exact absurd q hne
        | cons a r => rfl
      rw [e1, Bool.not_false, Bool.true_and, ecs]
      have e2 : ∀ l : List Nat, (∀ c ∈ l, c < 128) → (l.all fun c => decide (48 ≤ c ∧ c ≤ 57)) = (l.filter noDig).isEmpty := by
        intro l
        induction l with
        | nil => intro _; rfl
        | cons a r ih =>
          intro h
          rw [List.all_cons, List.filter_cons, noDig_eq (h a (List.mem_cons_self ..)), ih fun c hc => h c (List.mem_cons_of_mem _ hc)]
          cases decide (48 ≤ a ∧ a ≤ 57) <;> rfl
      exact e2 _ hc
    refine ⟨_, rfl, ?_⟩
    by_cases q : cs = []
    case neg =>
      have e : cs.isEmpty = false := by
        cases z : cs with
        | nil => exact absurd z q
        | cons a r => rfl
      refine ifT3 (show (!(cs.map fun c => PyData.str ⟨#[c]⟩).isEmpty) = true by rw [List.isEmpty_map, e]; rfl) ?_
      refine iteT ?_
      have z := k _ s2
      rw [show numB w = false by unfold numB; rw [dig, e]; rfl] at z
      exact z
    refine ifF3 (show (!(cs.map fun c => PyData.str ⟨#[c]⟩).isEmpty) = false by rw [q]; rfl) ?_
    have dt : digB w = true := by rw [dig, q]; rfl
    refine ⟨_, rfl, w, rfl, cap, _, _, rfl, rfl, _, rfl, ?_⟩
    by_cases l : 30 < w.length
    · refine ifT3 (decide_eq_true (by omega)) ?_
      have z := k _ s2
      rw [show numB w = false by unfold numB; rw [dt, decide_eq_false (by omega : ¬ w.length ≤ 30)]; rfl] at z
      exact z
    refine ifF3 (decide_eq_false (by omega)) ?_
    refine nxt ?_
    dsimp only
    have z := k _ s2
    have nb : numB w = (decide (w = "0") || !decide ((TL.tl w).head? = some 48)) := by
      unfold numB
      rw [dt, decide_eq_true (by omega : w.length ≤ 30), Bool.true_and, Bool.true_and]
    rw [nb] at z
    refine ⟨_, rfl, rfl, _, rfl, ?_⟩
    by_cases z0 : w = "0"
    · refine ifT3 (decide_eq_true (congrArg V.str z0)) ?_
      rw [decide_eq_true z0, Bool.true_or] at z
      exact z
    refine ifF3 (decide_eq_false fun z => z0 (V.str.inj z)) ?_
    rw [decide_eq_false z0, Bool.false_or] at z
    obtain ⟨a, r, er⟩ : ∃ a r, TL.tl w = a :: r := by
      cases q : TL.tl w with
      | nil => exact absurd q hne
      | cons a r => exact ⟨a, r, rfl⟩
    refine ⟨_, rfl, w, 0, a, rfl, rfl, cap, ?_, rfl, ?_⟩
    · exact atI_nat (j := 0) (by rw [show w.cps.toList = TL.tl w from rfl, er]; rfl)
    have e : decide (V.str ⟨#[a]⟩ = V.str "0") = decide ((TL.tl w).head? = some 48) := by
      refine decide_eq_decide.mpr ?_
      rw [er, zero_is]
      constructor
      · intro q
        have q2 := congrArg (fun x : Str => x.cps) (V.str.inj q)
        have q3 : (#[a] : Array Nat) = #[48] := q2
        have q4 : a = 48 := by simpa using q3
        rw [q4]
        rfl
      · intro q
        have q4 : a = 48 := Option.some.inj q
        rw [q4]
    rw [e]
    exact z
end
end K14

set_option Elab.async false
set_option linter.all false
set_option maxRecDepth 100000
set_option maxHeartbeats 8000000
/-! k14: len(set(xs)) of a list of texts, some of them more than once -/
namespace L2
open PySem PySem.Spec PyProof.Rows SS
/-- how many different ones there are among the first i -/
def cntD (xs : List Str) : Nat → Nat
  | 0 => 0
  | i + 1 => if (xs.take i).any (· == xs.getD i Str.empty) = true then cntD xs i else cntD xs i + 1
theorem cntD_le (xs : List Str) : ∀ i, cntD xs i ≤ i
  | 0 => Nat.le_refl 0
  | i + 1 => by
    have ih := cntD_le xs i
    unfold cntD
    split <;> omega
def memD (xs : List Str) (i : Nat) : Str → Bool := fun k => (xs.take i).any (· == k)
theorem memD_more {xs : List Str} {i : Nat} (h : i < xs.length) (k : Str) : memD xs (i + 1) k = (memD xs i k || decide (k = xs.getD i Str.empty)) := by
  unfold memD
  have e : xs[i]? = some (xs.getD i Str.empty) := by
    rw [List.getD_eq_getElem?_getD, List.getElem?_eq_getElem h]
    rfl
  rw [List.take_add_one, e, Option.toList_some, List.any_append, List.any_cons, List.any_nil, Bool.or_false]
  congr 1
  by_cases c : k = xs.getD i Str.empty
  · rw [decide_eq_true c, c]
    exact beq_self_eq_true _
  · rw [decide_eq_false c]
    exact beq_eq_false_iff_ne.mpr fun z => c z.symm
section
variable {prog : Program} {w : World} {A : Around} {R : Result → Shared → Prop} {I : Addr} {fp wr : List Addr} {G : Array GenState → Array GenState → Prop} {n : Nat} {Pv : Nat → Value → Prop} {St : Nat → Shared → Prop}
theorem set_kept {a : Addr} {S : Str → Bool} {m : Nat} {h h' : Heap} (hS : h.SetOf (PySem.strKind prog w) a S m) (k : ∀ o, h.get? a = some o → h'.get? a = some o) : h'.SetOf (PySem.strKind prog w) a S m := by
  obtain ⟨o, es, ep, t, ho, rest⟩ := hS
  exact ⟨o, es, ep, t, k o ho, rest⟩
/-- one more text is put in -/
theorem put_str {a : Addr} {S : Str → Bool} {m : Nat} {x : Str} {t : Tok} {s : Shared} {Q : Bool → Shared → Prop} {E : Value → Shared → Prop} (hS : s.heap.SetOf (PySem.strKind prog w) a S m) (hm : m + 1 < scanBound)
    (h : ∀ h', Heap.SameBut a s.heap h' → h'.SetOf (PySem.strKind prog w) a (fun k => S k || decide (k = x)) (if S x = true then m else m + 1) → Q (!S x) { s with heap := h', toks := s.toks + 1 }) : wpAny (model prog w) A (setAdd a (.str x t)) Q E s := by
  unfold setAdd
  exact wpAny_holding (wpAny_bind ((PySem.strKind prog w).pyHash (k := x) (strKind_is _ _ _ _) (wpAny_setAddHashed_of (knd := PySem.strKind prog w) (s := { s with toks := s.toks + 1 }) (strKind_is _ _ _ _) rfl hS hm fun h' b z => h h' b z)))
theorem loopD (W : WalksS prog w A.in1 I fp wr G n Pv St) (a : Addr) (ha : a ∉ fp) (xs : List Str) (hx : xs.length = n) (hn : n < 4000) (hv : ∀ i v, Pv i v → ∃ t, v = .str (xs.getD i Str.empty) t) :
    ∀ (left i : Nat) (s : Shared), left + i = n → St i s → s.heap.SetOf (PySem.strKind prog w) a (memD xs i) (cntD xs i) →
      (∀ s', Moved (a :: wr) G s s' → s'.heap.SetOf (PySem.strKind prog w) a (memD xs n) (cntD xs n) → R (.ok (.ret .none)) s') →
      codeAny (model prog w) A (.builtin "set.update.loop" ⟨[.ref a, .ref I], []⟩) R s := by
  have hw : a ∉ wr := fun z => ha (W.sub _ z)
  have more : ∀ b ∈ wr, b ∈ a :: wr := fun b z => List.mem_cons_of_mem _ z
  intro left
  induction left with
  | zero =>
    intro i s hi hst hS hR
    obtain rfl : i = n := by omega
    refine codeAny_builtin PyProof.Rows.F.entry_set_update_loop ?_
    rw [Around.under_plainId PyProof.Rows.F.plain_set_update_loop _]
    refine (show wpAny _ A.in1 (pyNext (.ref I) >>= _) _ _ s from wpAny_bind (W.done s _ _ hst fun s' hm => ?_))
    exact (show wpAny _ A.in1 (ret Value.none) _ _ s' from wpAny_pure (hR s' (hm.mono more) (set_kept hS fun o e => hm.heap a _ hw e)))
  | succ left ih =>
    intro i s hi hst hS hR
    have lt : i < n := by omega
    refine codeAny_builtin PyProof.Rows.F.entry_set_update_loop ?_
    rw [Around.under_plainId PyProof.Rows.F.plain_set_update_loop _]
    refine (show wpAny _ A.in1 (pyNext (.ref I) >>= _) _ _ s from wpAny_bind (W.item i s _ _ lt hst fun v s1 hP st1 hm => ?_))
    obtain ⟨t, rfl⟩ := hv i v hP
    have S1 := set_kept (h' := s1.heap) hS fun o e => hm.heap a _ hw e
    have room : cntD xs i + 1 < scanBound := by
      have := cntD_le xs i
      unfold scanBound
      omega
    refine (show wpAny _ A.in1 (holding [Value.str (xs.getD i Str.empty) t] (setAdd a (.str (xs.getD i Str.empty) t)) >>= _) _ _ s1 from wpAny_bind (wpAny_holding (put_str S1 room fun h' sb S2 => ?_)))
    have S3 : h'.SetOf (PySem.strKind prog w) a (memD xs (i + 1)) (cntD xs (i + 1)) := SetOf_congr S2 (fun k => (memD_more (by omega) k).symm) rfl
    refine wpAny_pure ⟨plainId_quiet PyProof.Rows.F.plain_set_update_loop _, ih (i + 1) _ (by omega) (W.frame _ s1 _ _ st1 (Nat.le_succ _) fun b hb o e => ?_) S3 fun s2 hm2 S4 => ?_⟩
    · rw [sb.2 b fun z => ha (z ▸ hb)]
      exact e
    · refine hR s2 (Moved.trans W.gtrans ((hm.mono more).then_heap (Nat.le_succ _) fun b o hb e => ?_) hm2) S4
      rw [sb.2 b fun z => hb (z ▸ List.mem_cons_self)]
      exact e
end
end L2

set_option Elab.async false
set_option linter.all false
set_option maxRecDepth 100000
set_option maxHeartbeats 8000000
/-! k14: set(xs) of a list of texts -/
namespace L2
open PySem PySem.Spec PyProof.Rows SS
section
variable {prog : Program} {w : World} {A : Around} {E : Value → Shared → Prop} {s : Shared}
/-- a new set's object -/
abbrev newSet (led : Bool) : Obj := { cls := .type "set", dict := none, data := .set #[] 0 (.fresh 0 0 led) }
/-- a new set is filled from a list of texts -/
theorem fill_strs {l : Addr} {items : Array Value} {xs : List Str} {led : Bool} {B : Around} {g : Heap} (hh : B.handled = none) (hg : g.get? s.heap.objs.size = some (newSet led)) (hsz : g.objs.size = s.heap.objs.size + 1) (hl : s.heap.IsList l items) (hlg : g.IsList l items)
    (hi : StrsAre items.toList xs) (hn : xs.length < 4000) (kp : ∀ b o, b < s.heap.objs.size → s.heap.get? b = some o → g.get? b = some o) :
    codeAny (model prog w) B (.builtin "set.update.loop" ⟨[.ref s.heap.objs.size, .ref g.objs.size], []⟩)
      (fun r s' => r = .ok (.ret .none) ∧ ∃ h' tk, s' = { s with heap := h', toks := tk } ∧ h'.SetOf (PySem.strKind prog w) s.heap.objs.size (memD xs xs.length) (cntD xs xs.length) ∧ ∀ b o, b < s.heap.objs.size → s.heap.get? b = some o → h'.get? b = some o)
      { s with heap := g.push { cls := .type "list_iterator", data := .fields #[.ref l, .int 0 0] } } := by
  obtain ⟨ol, hol, _⟩ := id hl
  have lS : l < s.heap.objs.size := Heap.lt_size hol
  have e : xs.length = items.size := by rw [← StrsAre.len_eq hi, Array.length_toList]
  have nI : l ≠ g.objs.size := Nat.ne_of_lt (by rw [hsz]; exact Nat.lt_succ_of_lt lS)
  have nJ : s.heap.objs.size ≠ g.objs.size := Nat.ne_of_lt (by rw [hsz]; exact Nat.lt_succ_self _)
  have nS : s.heap.objs.size ∉ [g.objs.size, l] := fun z => by
    simp only [List.mem_cons, List.not_mem_nil, or_false] at z
    exact z.elim nJ (Nat.ne_of_gt lS)
  refine loopD ((Walks.list (by simp [hh]) _ l nI items).toS) s.heap.objs.size nS xs e (by omega) (fun i v hv => SS.strs_at hi i v (by rw [Array.getElem?_toList]; exact hv)) items.size 0 _ (by omega)
    ⟨⟨_, Heap.get?_push_size _ rfl, rfl, rfl⟩, hlg.push _⟩ ?_ fun s' hm hS => ?_
  · exact SetOf_congr ((setObjOf_fresh (knd := PySem.strKind prog w) led).setOf (Heap.get?_push_of_some _ hg) (by unfold scanBound; omega)) (fun _ => rfl) rfl
  · obtain ⟨h', g', d', tk', os'⟩ := s'
    obtain rfl : g' = s.gens := hm.gens
    obtain rfl : d' = s.drawn := hm.drawn
    obtain rfl : os' = s.os := hm.os
    rw [← e] at hS
    refine ⟨rfl, h', tk', rfl, hS, fun b o hb q => hm.heap b o ?_ (Heap.get?_push_of_some _ (kp b o hb q))⟩
    simp only [List.mem_cons, List.not_mem_nil, or_false]
    exact fun z => z.elim (Nat.ne_of_lt hb) (Nat.ne_of_lt (by rw [hsz]; exact Nat.lt_succ_of_lt hb))
/-- set(xs), xs a list of texts: what is different among them -/
theorem call_set_strs {l : Addr} {items : Array Value} {xs : List Str} {Q : Value → Shared → Prop} (hh : A.handled = none) (hl : s.heap.IsList l items) (hi : StrsAre items.toList xs) (hn : xs.length < 4000)
    (h : ∀ (h' : Heap) (tk : Nat), h'.SetOf (PySem.strKind prog w) s.heap.objs.size (memD xs xs.length) (cntD xs xs.length) → (∀ b o, b < s.heap.objs.size → s.heap.get? b = some o → h'.get? b = some o) → Q (.ref s.heap.objs.size) { s with heap := h', toks := tk }) :
    wpAny (model prog w) A (call (.type "set") [.ref l]) Q E s := by
  have ⟨_, _, mro⟩ := PySem.F.called_set.mro
  have made := PySem.F.called_set.made
  have sub := PySem.F.called_set.sub
  have nt := PySem.F.called_set.notType
  have cc := PySem.F.called_set.canCreate
  have tc := PySem.F.typeCall_set_1 (.ref l)
  have il := PySem.F.called_set.init.lookup
  refine wpAny_call (codeAny_of_tree (show wpAny _ _ (callAny (.type "set") _) _ _ _ from wpAny_pure ⟨Code.quiet_builtin _ (by decide +kernel), codeAny_builtin PySem.F.entry_type_call ?_⟩))
  rw [Around.under_plain (weight_type_call_type "set" [.ref l] []) rfl]
  repeat (any_goals (first | assumption | wp_step))
  refine codeAny_mono (code_set_new_1 (.ref l) (E := E) (Q₁ := fun x s1 => ∃ led, x = .ref s.heap.objs.size ∧ s1 = { s with heap := s.heap.push (newSet led) }) fun led => ⟨led, rfl, rfl⟩) fun r s1 hr => ?_
  match r, hr with
  | .error _, hr => exact hr
  | .ok .next, hr => exact hr.elim
  | .ok .brk, hr => exact hr.elim
  | .ok .cont, hr => exact hr.elim
  | .ok (.ret x), hr =>
    obtain ⟨led, rfl, rfl⟩ := hr
    have at_ : (s.heap.push (newSet led)).get? s.heap.objs.size = some (newSet led) := Heap.get?_push_size _ rfl
    have ty : Shared.TypeIs { s with heap := s.heap.push (newSet led) } (.ref s.heap.objs.size) "set" := ⟨_, at_, rfl⟩
    have ib := PySem.F.called_set.init.bind (.ref s.heap.objs.size)
    repeat (any_goals (first | assumption | wp_step))
    refine codeAny_mono (codeAny_call_builtin (R := wants (fun r s2 => r = .none ∧ ∃ h' tk, s2 = { s with heap := h', toks := tk } ∧ h'.SetOf (PySem.strKind prog w) s.heap.objs.size (memD xs xs.length) (cntD xs xs.length) ∧
      ∀ b o, b < s.heap.objs.size → s.heap.get? b = some o → h'.get? b = some o) E) PySem.F.called_set.init.plain PySem.F.entry_set_init (check_set_init_1 ty ?_)) fun r s2 hr => ?_
    · have lg : (s.heap.push (newSet led)).IsList l items := hl.push _
      obtain ⟨⟨lc, ld, ldt, lsl⟩, hol, hcl, nl, hdl⟩ := id lg
      simp only at hcl hdl
      subst hcl; subst hdl
      have hsls := PySem.F.sub_list_set
      have hslf := PySem.F.sub_list_frozenset
      have hne : (Value.type "list" == Value.type "dict") = false := by decide
      unfold Builtin.«set.__init__» noKeywords Builtin.Frozenset.updateFrom
      generalize hPI : pyIter = PI
      wp_walk
      subst hPI
      refine wpAny_pyIter_list lg ?_
      refine wpAny_bind (wpAny_runValue ?_)
      refine codeAny_mono (fill_strs (s := s) (xs := xs) (items := items) (by simp [hh]) at_ (Heap.size_push ..) hl lg hi hn fun b o hb e => Heap.get?_push_of_some _ e) fun r s3 hr => ?_
      obtain ⟨rfl, h', tk, rfl, hS, kp⟩ := hr
      refine (show wpAny _ _ _ _ _ _ from wpAny_pure ?_)
      exact (show wpAny _ _ (ret Value.none) _ _ _ from wpAny_pure ⟨rfl, h', tk, rfl, hS, kp⟩)
    · match r, hr with
      | .error _, hr => exact hr
      | .ok .next, hr => exact hr.elim
      | .ok .brk, hr => exact hr.elim
      | .ok .cont, hr => exact hr.elim
      | .ok (.ret y), hr =>
        obtain ⟨rfl, h', tk, rfl, hS, kp⟩ := hr
        repeat (any_goals (first | assumption | wp_step))
        exact h _ _ hS kp
end
end L2

set_option Elab.async false
set_option linter.all false
set_option maxRecDepth 100000
set_option maxHeartbeats 8000000
/-! k14: len(set(xs)) as a rule; when it is the list's length -/
namespace L2
open PySem PySem.Spec PyProof.Rows SS
def tLenSetD (K : PySem.W.Frag) (ta : TE) : TE := fun σ H Q => ta σ H fun x H1 => ∃ (l : Addr) (xs : List Str), x = .ref l ∧ SqL K H1 l (xs.map V.str) ∧ xs.length < 4000 ∧ Q (.int (cntD xs xs.length : Nat)) H1
theorem pe_lenSetD {X : Cx} {a : Expr} {ta : TE} {p p2 q pos : Pos} (hc : X.calm = true) (hg : Gl X "len") (hm : X.mg "len" = none) (hg2 : Gl X "set") (hm2 : X.mg "set" = none) (ha : PE X a ta)
    (na : starEach [a] X.env = (false, eval a X.env) :: starEach [] X.env := by rfl) : PE X (.Call (.Name "len" p) [.Call (.Name "set" p2) [a] [] q] [] pos) (tLenSetD X.K ta) := by
  constructor
  intro pins s σ H Q I h
  refine Call_ (ld_blt I hg hm boot_len (callWith_builtin1 (args_cons (Call_ (ld_blt I hg2 hm2 boot_set (callWith_type1 (args_cons (thn (ha.run pins s σ H _ I h) fun v s1 ⟨x, H1, I1, r1, q1⟩ => args_nil ?_) na) na rfl))) rfl) rfl rfl))
  obtain ⟨l, xs, rfl, hq, hl, q2⟩ := q1
  cases r1
  obtain ⟨its, r, pl, _⟩ := I1.list hq
  refine call_set_strs (I1.ok.hd hc) pl.isList (by simpa using strsAre_of r) hl fun h' tk hS kp => args_nil ?_
  obtain ⟨o, es, ep, t, ho, hex, hd, _, _, _, hf, hn⟩ := hS
  have I2 : Inv X pins σ H1 { s1 with heap := h', toks := tk } := I1.kept fun b o e => kp b o (Heap.lt_size e) e
  have few := cntD_le xs xs.length
  exact call_len_set ho hex hd hf (by rw [hn] <;> omega) ⟨.int (cntD xs xs.length : Nat), H1, I2.tok _, ⟨_, by rw [hn]⟩, q2⟩
theorem cntD_full (xs : List Str) : ∀ i, i ≤ xs.length → (cntD xs i = i ↔ (xs.take i).Nodup)
  | 0, _ => by simp [cntD]
  | i + 1, hi => by
    have ih := cntD_full xs i (by omega)
    have le := cntD_le xs i
    have e : xs[i]? = some (xs.getD i Str.empty) := by
      rw [List.getD_eq_getElem?_getD, List.getElem?_eq_getElem (by omega)]
      rfl
    have tk : xs.take (i + 1) = xs.take i ++ [xs.getD i Str.empty] := by rw [List.take_add_one, e]; rfl
    have nd : (xs.take (i + 1)).Nodup ↔ (xs.take i).Nodup ∧ xs.getD i Str.empty ∉ xs.take i := by
      rw [tk, List.nodup_append]
      constructor
      · rintro ⟨a, _, c⟩
        exact ⟨a, fun z => c _ z _ (List.mem_singleton.mpr rfl) rfl⟩
      · rintro ⟨a, c⟩
        refine ⟨a, List.nodup_cons.mpr ⟨fun z => (nomatch z), List.nodup_nil⟩, fun x hx y hy z => ?_⟩
        rw [List.mem_singleton.mp hy] at z
        exact c (z ▸ hx)
    have an : (xs.take i).any (· == xs.getD i Str.empty) = true ↔ xs.getD i Str.empty ∈ xs.take i := by
      rw [List.any_eq_true]
      constructor
      · rintro ⟨x, hx, hb⟩
        rw [← beq_iff_eq.mp hb]
        exact hx
      · exact fun hx => ⟨_, hx, beq_self_eq_true _⟩
    rw [nd, ← ih, show cntD xs (i + 1) = if (xs.take i).any (· == xs.getD i Str.empty) = true then cntD xs i else cntD xs i + 1 from rfl]
    by_cases c : xs.getD i Str.empty ∈ xs.take i
    · rw [if_pos (an.mpr c)]
      exact ⟨fun z => by omega, fun z => absurd c z.2⟩
    · rw [if_neg (fun z => c (an.mp z))]
      exact ⟨fun z => ⟨by omega, c⟩, fun z => by omega⟩
theorem cntD_nodup (xs : List Str) : decide ((cntD xs xs.length : Nat) = xs.length) = decide xs.Nodup := by
  have h := cntD_full xs xs.length (Nat.le_refl _)
  rw [List.take_length] at h
  exact decide_eq_decide.mpr h
end L2

set_option Elab.async false
set_option linter.all false
set_option maxRecDepth 100000
set_option maxHeartbeats 8000000
/-! k14, the law: names, places, sums -/
namespace K14
open PySem L2
abbrev sNames : Stmt := top 63
abbrev sPlaces : Stmt := top 64
abbrev sIsSum : Stmt := top 72
def spList (ls : List Str) : Sp := fun vs H Q _ => vs = [] ∧ ∀ R H', Same H H' → H' R = some (.lst (ls.map V.str)) → Q (.ref R) H'
def spIsSum : Sp := fun vs H Q _ => ∃ (a : Addr) (ws : List Str), vs = [.ref a] ∧ H a = some (.lst (ws.map V.str)) ∧ (∀ w ∈ ws, Wo w) ∧ ws.length ≤ 1000 ∧ ∀ H', Same H H' → Q (.bl (sumB ws)) H'
theorem evens_snoc : ∀ (l : List Str) (a : Str), evens (l ++ [a]) = evens l ++ (if l.length % 2 = 0 then [a] else []) ∧ odds (l ++ [a]) = odds l ++ (if l.length % 2 = 1 then [a] else [])
  | [], a => ⟨rfl, rfl⟩
  | [x], a => ⟨rfl, rfl⟩
  | x :: y :: r, a => by
    have ih := evens_snoc r a
    have e : (x :: y :: r).length % 2 = r.length % 2 := by simp only [List.length_cons]; omega
    rw [e]
    constructor
    · show x :: evens (r ++ [a]) = x :: evens r ++ _
      rw [ih.1]
      rfl
    · show y :: odds (r ++ [a]) = y :: odds r ++ _
      rw [ih.2]
      rfl
theorem odds_at : ∀ (ws : List Str) (i : Nat) (x : Str), ws[i]? = some x → i % 2 = 1 → x ∈ odds ws
  | [], i, x, h, _ => by simp at h
  | [a], 0, x, h, o => by omega
  | [a], i + 1, x, h, _ => by simp at h
  | a :: s :: r, 0, x, h, o => by omega
  | a :: s :: r, 1, x, h, o => by
    simp at h
    rw [← h]
    exact List.mem_cons_self ..
  | a :: s :: r, i + 2, x, h, o => by
    simp only [List.getElem?_cons_succ] at h
    exact List.mem_cons_of_mem _ (odds_at r i x h (by omega))
theorem nn_app (a b : List Str) : nn (a ++ b) = nn a ++ nn b := List.filter_append ..
theorem evens_len : ∀ l : List Str, (evens l).length ≤ l.length
  | [] => Nat.le_refl _
  | [a] => Nat.le_refl _
  | a :: b :: r => by
    have := evens_len r
    show (evens r).length + 1 ≤ r.length + 2
    omega
theorem nn_len (l : List Str) : (nn l).length ≤ l.length := List.length_filter_le _ _
abbrev nmIsSum : List Str := ["_law_words", "_law_names_here", "_law_k", "_law_strange", "_law_name"]
theorem scIsSum : FnScope nmIsSum ["_law_words"] (defScope sIsSum) := ⟨rfl, rfl, rfl, by decide +kernel, rfl, by decide +kernel, by decide +kernel⟩
structure TxtS2 (mg : Str → Option Value) : Prop where
  set : mg "set" = none
def placesAll : List Str := ["own", "p", "q", "r", "s"]
section
variable {P : Program} {w : World} {K : PySem.W.Frag} {mg : Str → Option Value} {base : Heap}
theorem dp_strs (K : PySem.W.Frag) (H : Hp) : ∀ ws : List Str, DpAll K H (ws.map V.str) (ws.map PyData.str)
  | [] => .nil
  | c :: r => .cons (.str _) (dp_strs K H r)
theorem scNames : FnScope [] [] (defScope sNames) := ⟨rfl, rfl, rfl, by decide +kernel, rfl, by decide +kernel, by decide +kernel⟩
theorem ok_names {f : Addr} {fd : FuncData} (F : Fun K "_law_names" "_law_names" sNames f fd) : FnOk P w K mg base CX0 1 f fd [] (spList namesL) := by
  refine F.ok scNames (fun vs H Q E h => ?_) (fun cdv A outer s H vs Q E hr h => ?_)
  · obtain ⟨rfl, _⟩ := h
    rfl
  · obtain ⟨rfl, k⟩ := h
    exact ⟨_, pss_one (ps_ret (pe_lst (pa_cons pe_str (pa_cons pe_str (pa_cons pe_str (pa_cons pe_str (pa_cons pe_str (pa_cons pe_str pa_nil)))))))), (by show 6 ≤ sizeLine; decide), fun R nR => k R _ (Same.new nR) upd_same⟩
theorem scPlaces : FnScope [] [] (defScope sPlaces) := ⟨rfl, rfl, rfl, by decide +kernel, rfl, by decide +kernel, by decide +kernel⟩
theorem ok_places {f : Addr} {fd : FuncData} (F : Fun K "_law_places" "_law_places" sPlaces f fd) : FnOk P w K mg base CX0 1 f fd [] (spList placesAll) := by
  refine F.ok scPlaces (fun vs H Q E h => ?_) (fun cdv A outer s H vs Q E hr h => ?_)
  · obtain ⟨rfl, _⟩ := h
    rfl
  · obtain ⟨rfl, k⟩ := h
    exact ⟨_, pss_one (ps_ret (pe_lst (pa_cons pe_str (pa_cons pe_str (pa_cons pe_str (pa_cons pe_str (pa_cons pe_str pa_nil))))))), (by show 5 ≤ sizeLine; decide), fun R nR => k R _ (Same.new nR) upd_same⟩
theorem ok_issum {f fN fM : Addr} {fd fdN fdM : FuncData} (F : Fun K "_law_is_sum" "_law_is_sum" sIsSum f fd) (T : TxtN mg) (T2 : TxtS2 mg)
    (GN : FnOk P w K mg base CX0 1 fN fdN ["_law_word"] spIsNum) (kN : PySem.W.keepIn K (.ref fN) = true) (bN : Binds K fdN ["_law_word"] []) (gN : mg "_law_is_number" = some (.ref fN))
    (GM : FnOk P w K mg base CX0 1 fM fdM [] (spList namesL)) (kM : PySem.W.keepIn K (.ref fM) = true) (bM : Binds K fdM [] []) (gM : mg "_law_names" = some (.ref fM)) : FnOk P w K mg base CX0 2 f fd ["_law_words"] spIsSum := by
  have sc := scIsSum
  refine F.ok scIsSum (fun vs H Q E h => ?_) (fun cdv A outer s H vs Q E hr h => ?_)
  · obtain ⟨a, ws, rfl, _⟩ := h
    rfl
  · obtain ⟨a, ws, rfl, ha, hw, hl, k⟩ := h
    have hr1 : Room 1 _ := hr.mono (by decide)
    refine ⟨_, pss_cons (ps_if (PW.pt (pw_or (pt_cmpR op_eq (pe_op op_mod (pe_callB call_len_seq (by rfl) T.len PySem.boot_len (pa_cons (pv 0) pa_nil)) pe_int) pe_int (nomark _)) (pw_or1 (pt_cmpR op_gt (pe_callB call_len_seq (by rfl) T.len PySem.boot_len (pa_cons (pv 0) pa_nil)) pe_int (nomark _))))) (pss_one (ps_ret pe_bl)) pss_nil)
      (pss_cons (ps_set (i := 1) sc.nd rfl (.inl rfl) (pe_lst pa_nil))
      (pss_cons (ps_for PassesOwn.never rfl (pi_range1 (by rfl) T.range (pa_cons (pe_callB call_len_seq (by rfl) T.len PySem.boot_len (pa_cons (pv 0) pa_nil)) pa_nil)) (pg_name (i := 2) sc.nd rfl (Or.inl rfl))
        (pss_cons (ps_if (PW.pt (pw_and (pt_cmpR op_eq (pe_op op_mod (pv 2) pe_int) pe_int (nomark _)) (pw_and1 (pt_cmpR op_notIn_seq (pe_ix ix_list (pv 0) (pv 2) (fun _ _ => rfl)) (pe_lst (pa_cons pe_str (pa_cons pe_str pa_nil))) (by rfl))))) (pss_one (ps_ret pe_bl)) pss_nil)
        (pss_one (ps_if (PW.pt (pw_and (pt_cmpR op_eq (pe_op op_mod (pv 2) pe_int) pe_int (nomark _)) (pw_and1 (pt_not (pt_val (pe_call GN hr1 rfl gN kN bN .nil pass0 (pa_cons (pe_ix ix_list (pv 0) (pv 2) (fun _ _ => rfl)) pa_nil)))))))
          (pss_one (ps_expr (pe_bm PySem.F.plainAttrs_list PySem.F.slot_list_append PySem.F.type_list_append mt_append (pv 1) (pa_cons (pe_ix ix_list (pv 0) (pv 2) (fun _ _ => rfl)) pa_nil)))) pss_nil))))
      (pss_cons (ps_setLc (i := 3) (own := [("_law_name", 4)]) (g := gName 4) (te := tVar 4) rfl sc.nd rfl rfl (sw_true rfl rfl rfl (by decide +kernel)) (by exact pi_list (pv 1)) (blkOk_by (own := [("_law_name", 4)]) (N := nmIsSum) (sc := defScope sIsSum) (by decide +kernel)) (fun _ _ _ _ _ => pg_name (i := 4) sc.nd rfl (Or.inl rfl)) (fun _ _ _ _ _ => pts_one (pt_cmpR (show OpR _ _ (rIn K true) from op_notIn_seq) (pv 4) (pe_call0 GM hr1 rfl gM kM bM .nil pass0) (by rfl))) (fun _ _ _ _ _ => pv 4))
      (pss_one (ps_ret (pe_and (pe_cmpR (op_eqD hr.units) (pv 3) (pe_lst pa_nil) (nomark _)) (pe_one (pe_cmpR op_eq (pe_lenSetD rfl (by rfl) T.len (by rfl) T2.set (pv 1)) (pe_callB call_len_seq (by rfl) T.len PySem.boot_len (pa_cons (pv 1) pa_nil)) (nomark _))))))))), ?_⟩
    have lw : (ws.map V.str).length = ws.length := List.length_map ..
    refine ⟨_, rfl, a, _, rfl, .inl (SqL.of ha), _, _, rfl, rfl, (by show (0 : Int) < 2; decide), rfl, _, rfl, ?_⟩
    rw [lw]
    have bad : ¬ (ws.length % 2 = 1 ∧ ws.length ≤ 7) → sumB ws = false := fun z => by unfold sumB; rw [decide_eq_false z]; rfl
    by_cases c1 : ws.length % 2 = 0
    · refine ifT3 (decide_eq_true (congrArg V.int (by omega))) ?_
      refine iteT ?_
      have z := k H (fun _ _ e => e)
      rw [bad (by omega)] at z
      exact z
    refine ifF3 (decide_eq_false fun z => c1 (by have := V.int.inj z; omega)) ?_
    refine ⟨_, rfl, a, _, rfl, .inl (SqL.of ha), _, _, rfl, rfl, _, rfl, ?_⟩
    rw [lw]
    by_cases c2 : 7 < ws.length
    · refine ifT3 (decide_eq_true (by omega)) ?_
      have z := k H (fun _ _ e => e)
      rw [bad (by omega)] at z
      exact z
    refine ifF3 (decide_eq_false (by omega)) ?_
    refine nxt ?_
    dsimp only
    have hl7 : ws.length ≤ 7 := by omega
    refine ⟨(by show 0 ≤ sizeLine; decide), fun N nN => ?_⟩
    have sN := Same.new (o := .lst []) nN
    refine ⟨_, rfl, a, _, rfl, .inl (SqL.of (sN _ _ ha)), _, rfl, by rw [lw]; omega, by rw [lw]; omega, ?_⟩
    rw [lw, show ((ws.length : Nat) : Int).toNat = ws.length by omega]
    refine for_range (lo := 0) (n := ws.length) (fun i σ G => ∃ v2, σ = [some (.ref a), some (.ref N), v2, none, none] ∧ Same H G ∧ G N = some (.lst ((nn (evens (ws.take i))).map V.str)) ∧ (odds (ws.take i)).all sgnB = true) ⟨none, rfl, sN, upd_same, rfl⟩ ?_ ?_
    · rintro i σ G hi ⟨v2, rfl, sG, gN, ho⟩
      obtain ⟨x, hx⟩ : ∃ x, ws[i]? = some x := ⟨_, List.getElem?_eq_getElem hi⟩
      have hxm : x ∈ ws := List.mem_of_getElem? hx
      have hwx := hw x hxm
      obtain ⟨e1, e2⟩ := evens_snoc (ws.take i) x
      rw [← take_more hx, List.length_take, Nat.min_eq_left (Nat.le_of_lt hi)] at e1 e2
      have Na : N ≠ a := fun z => by rw [z, ha] at nN; cases nN
      have ga := sG _ _ ha
      have hat : atI (ws.map V.str) (((0 : Int) + (i : Nat))) = some (.str x) := by
        rw [show (0 : Int) + (i : Nat) = (i : Nat) by omega]
        exact atI_nat (by rw [List.getElem?_map, hx]; rfl)
      refine ⟨_, rfl, _, _, rfl, rfl, (by show (0 : Int) < 2; decide), rfl, _, rfl, ?_⟩
      by_cases ce : i % 2 = 1
      · refine ifT3 (decide_eq_true (congrArg V.int (by omega))) ?_
        refine ⟨_, rfl, _, rfl, a, _, _, _, rfl, rfl, SqL.of ga, hat, (by show 2 ≤ sizeLine; decide), fun S nS => ?_⟩
        have sS := Same.new (o := .lst [.str "+", .str "-"]) nS
        refine ⟨S, _, rfl, .inl (SqL.of upd_same), rfl, rfl, _, rfl, ?_⟩
        have es : inV (.str x) [.str "+", .str "-"] = sgnB x := by
          unfold sgnB
          exact inV_str x ["+", "-"]
        by_cases cs : sgnB x = true
        · refine ifF3 (show (!inV (.str x) [.str "+", .str "-"]) = false by rw [es, cs]; rfl) ?_
          refine nxt ?_
          dsimp only
          refine ⟨_, rfl, _, _, rfl, rfl, (by show (0 : Int) < 2; decide), rfl, _, rfl, ?_⟩
          refine ifF3 (decide_eq_false fun z => by have := V.int.inj z; omega) ?_
          refine iteF ?_
          rw [if_neg (by omega)] at e1
          rw [if_pos ce] at e2
          refine ⟨_, rfl, sG.trans sS, ?_, ?_⟩
          · rw [e1, List.append_nil]
            exact sS _ _ gN
          · rw [e2, List.all_append, ho, List.all_cons, cs]
            rfl
        · refine ifT3 (show (!inV (.str x) [.str "+", .str "-"]) = true by rw [es, Bool.eq_false_iff.mpr cs]; rfl) ?_
          have z := k _ (sG.trans sS)
          have e3 : sumB ws = false := by
            unfold sumB
            have : (odds ws).all sgnB = false := List.all_eq_false.mpr ⟨x, odds_at _ _ _ hx ce, cs⟩
            rw [this, Bool.false_and, Bool.and_false]
          rw [e3] at z
          exact z
      · refine ifF3 (decide_eq_false fun z => ce (by have := V.int.inj z; omega)) ?_
        refine iteF ?_
        refine nxt ?_
        dsimp only
        refine ⟨_, rfl, _, _, rfl, rfl, (by show (0 : Int) < 2; decide), rfl, _, rfl, ?_⟩
        refine ifT3 (decide_eq_true (congrArg V.int (by omega))) ?_
        refine ⟨_, rfl, _, rfl, a, _, _, _, rfl, rfl, SqL.of ga, hat, x, rfl, hwx, fun G2 s2 => ?_⟩
        refine ⟨_, rfl, ?_⟩
        rw [if_pos (by omega)] at e1
        rw [if_neg ce, List.append_nil] at e2
        have gN2 := s2 _ _ gN
        have nx1 : nn [x] = if numB x = true then [] else [x] := by
          unfold nn
          rw [List.filter_cons, List.filter_nil]
          cases numB x <;> rfl
        have small : (nn (evens (ws.take i))).length ≤ 7 := Nat.le_trans (nn_len _) (Nat.le_trans (evens_len _) (Nat.le_trans (List.length_take_le _ _) (by omega)))
        by_cases cn : numB x = true
        · refine ifF3 (by rw [cn]; rfl) ?_
          refine ⟨_, rfl, sG.trans s2, ?_, by rw [e2]; exact ho⟩
          rw [e1, nn_app, nx1, if_pos cn, List.append_nil]
          exact gN2
        · refine ifT3 (by rw [Bool.eq_false_iff.mpr cn]; rfl) ?_
          refine ⟨_, rfl, .inl ⟨rfl, _, SqL.of gN2⟩, _, rfl, _, rfl, a, _, _, _, rfl, rfl, SqL.of (s2 _ _ ga), hat, N, _, _, rfl, rfl, gN2, small1000 (by rw [List.length_map]; omega), ?_⟩
          refine ⟨_, rfl, Same.write (sG.trans s2) nN, ?_, by rw [e2]; exact ho⟩
          rw [upd_same, e1, nn_app, nx1, if_neg cn, List.map_append]
          rfl
    rintro σ G ⟨v2, rfl, sG, gN, ho⟩
    rw [List.take_length] at gN ho
    dsimp only
    obtain ⟨ns, ens⟩ : ∃ ns, ns = nn (evens ws) := ⟨_, rfl⟩
    rw [← ens] at gN
    have hns7 : ns.length ≤ 7 := by rw [ens]; exact Nat.le_trans (nn_len _) (Nat.le_trans (evens_len _) hl7)
    have hnw : ∀ t ∈ ns, Wo t := fun t ht => by rw [ens] at ht; exact hw t (even_mem (List.mem_filter.mp ht).1)
    refine ⟨_, rfl, N, rfl, ⟨_, SqL.of gN⟩, fun D nD => ?_⟩
    have sD := Same.new (o := .lst []) nD
    refine lc_list (K := K) (a := N) (xs := ns.map V.str) (fun i G2 => Same G G2 ∧ G2 D = some (.lst (((ns.take i).filter (fun t => !decide (t ∈ namesL))).map V.str))) ⟨sD, upd_same⟩ (fun i G2 _ ⟨s, _⟩ => SqL.of (s _ _ gN)) ?_ ?_
    · rintro i y G2 hi ⟨s2, g2⟩
      obtain ⟨t, ht, rfl⟩ : ∃ t, ns[i]? = some t ∧ y = V.str t := by
        rw [List.getElem?_map] at hi
        cases e : ns[i]? with
        | none => rw [e] at hi; cases hi
        | some t => rw [e] at hi; exact ⟨t, rfl, (Option.some.inj hi).symm⟩
      have more : ((ns.take (i + 1)).filter (fun t => !decide (t ∈ namesL))) = ((ns.take i).filter (fun t => !decide (t ∈ namesL))) ++ (if t ∈ namesL then [] else [t]) := by
        rw [take_more ht, List.filter_append, List.filter_cons, List.filter_nil]
        congr 1
        by_cases c : t ∈ namesL
        · rw [if_pos c, decide_eq_true c]; rfl
        · rw [if_neg c, decide_eq_false c]; rfl
      have hfl : ((ns.take i).filter (fun t => !decide (t ∈ namesL))).length ≤ 7 := Nat.le_trans (List.length_filter_le _ _) (Nat.le_trans (List.length_take_le _ _) (by have := (List.getElem?_eq_some_iff.mp ht).1; omega))
      refine ⟨rfl, ?_⟩
      refine ⟨_, rfl, rfl, fun R G3 s3 gR => ?_⟩
      refine ⟨R, _, rfl, .inl (SqL.of gR), rfl, flat_str _, _, rfl, ?_⟩
      rw [inV_str]
      by_cases c : t ∈ namesL
      · refine ifF3 (show (!decide (t ∈ namesL)) = false by rw [decide_eq_true c]; rfl) ?_
        refine ⟨s2.trans s3, ?_⟩
        rw [more, if_pos c, List.append_nil]
        exact s3 _ _ g2
      · refine ifT3 (show (!decide (t ∈ namesL)) = true by rw [decide_eq_false c]; rfl) ?_
        refine ⟨_, rfl, _, s3 _ _ g2, small1000 (by rw [List.length_map]; omega), Same.write (s2.trans s3) nD, ?_⟩
        rw [upd_same, more, if_neg c, List.map_append]
        rfl
    rintro G2 ⟨s2, g2⟩
    rw [List.length_map, List.take_length] at g2
    obtain ⟨st, est⟩ : ∃ st, st = ns.filter (fun t => !decide (t ∈ namesL)) := ⟨_, rfl⟩
    rw [← est] at g2
    have hst : ∀ t ∈ st, PyData.strOk t = true := fun t ht => by
      rw [est] at ht
      have z := (hnw t (List.mem_filter.mp ht).1).wok.sig
      simpa [PyData.canLay0] using z
    have sGG := sG.trans s2
    have gN2 := s2 _ _ gN
    refine ⟨_, rfl, (by show 0 ≤ sizeLine; decide), fun Z nZ => ?_⟩
    have sZ := Same.new (o := .lst []) nZ
    refine ⟨.list (st.map .str), .list [], .lst (SqL.of (sZ _ _ g2)) (dp_strs _ _ st), .lst (SqL.of upd_same) .nil, shaped_strs hst, by decide +kernel, ?_⟩
    rw [eqv_nil]
    have fin : sumB ws = (st.isEmpty && decide ns.Nodup) := by
      unfold sumB
      rw [decide_eq_true (⟨by omega, hl7⟩ : ws.length % 2 = 1 ∧ ws.length ≤ 7), ho, Bool.true_and, Bool.true_and, okGo_eq, ← ens]
      have e1 : st.isEmpty = decide (∀ t ∈ ns, t ∈ namesL) := by
        rw [est]
        by_cases c : ∀ t ∈ ns, t ∈ namesL
        · rw [decide_eq_true c, List.isEmpty_iff, List.filter_eq_nil_iff]
          intro t ht
          rw [decide_eq_true (c t ht)]
          exact Bool.false_ne_true
        · rw [decide_eq_false c]
          refine Bool.eq_false_iff.mpr fun z => c fun t ht => ?_
          have z2 := List.filter_eq_nil_iff.mp (List.isEmpty_iff.mp z) t ht
          by_cases q : t ∈ namesL
          · exact q
          · exact absurd (by rw [decide_eq_false q]; rfl) z2
      rw [e1, ← Bool.decide_and]
      exact decide_eq_decide.mpr ⟨fun z => ⟨fun t ht => (z.1 t ht).1, z.2⟩, fun z => ⟨fun t ht => ⟨z.1 t ht, fun q => (nomatch q)⟩, z.2⟩⟩
    have z := k _ (sGG.trans sZ)
    rw [fin] at z
    refine ⟨_, rfl, ?_⟩
    by_cases c : st.isEmpty = true
    · refine ifT3 (show (st.map PyData.str).isEmpty = true by rw [List.isEmpty_map]; exact c) ?_
      refine ⟨_, rfl, N, ns, rfl, SqL.of (sZ _ _ gN2), by omega, _, rfl, N, _, rfl, .inl (SqL.of (sZ _ _ gN2)), rfl, ?_⟩
      rw [c, Bool.true_and, ← L2.cntD_nodup] at z
      rw [List.length_map]
      rw [show decide (V.int (L2.cntD ns ns.length : Nat) = V.int (ns.length : Nat)) = decide (L2.cntD ns ns.length = ns.length) from decide_eq_decide.mpr ⟨fun q => by have := V.int.inj q; omega, fun q => by rw [q]⟩]
      exact z
    · refine ifF3 (show (st.map PyData.str).isEmpty = false by rw [List.isEmpty_map]; exact Bool.eq_false_iff.mpr c) ?_
      rw [Bool.eq_false_iff.mpr c, Bool.false_and] at z
      exact z
end
end K14

set_option Elab.async false
set_option linter.all false
set_option maxRecDepth 100000
set_option maxHeartbeats 8000000
/-! k14, the law: parts of tests -/
namespace K14
open PySem L2
abbrev sIsPart : Stmt := top 73
theorem known_eq : knownL = placesAll := rfl
/-- a part of a test behind its not, as the law has it -/
def partB (ws : List Str) : Bool :=
  if ws.take 1 = [("used" : Str)] ∨ ws.take 2 = [("ahead" : Str), "used"] then decide (ws.take (ws.length - 1) = [("used" : Str)] ∨ ws.take (ws.length - 1) = [("ahead" : Str), "used"]) && decide (wd ws (ws.length - 1) ∈ placesAll)
  else if ws.drop 1 = [("is" : Str), "bin"] then decide (wd ws 0 ∈ placesAll)
  else if ws.length ≠ 3 ∨ wd ws 0 = wd ws 2 ∨ wd ws 1 ∉ cmps then false
  else sumB (ws.take 1) && sumB (ws.drop 2)
theorem term_some {t : Str} (h : Wo t) : (termV t namesL).isSome = sumB [t] := by
  unfold termV sumB
  have e : okGo (evens [t]) [] = if t ∈ namesL then true else numB t := by
    show okGo [t] [] = _
    unfold okGo
    by_cases c : t ∈ namesL
    · rw [if_pos c, if_pos c, decide_eq_false (fun z => nomatch z)]; rfl
    · rw [if_neg c, if_neg c]
      show (numB t && true) = _
      rw [Bool.and_true]
  rw [e]
  by_cases c : t ∈ namesL
  · rw [if_pos c, if_pos c]
    rfl
  · rw [if_neg c, if_neg c, Option.isSome_map, num_some h]
    show numB t = (true && (true && numB t))
    rw [Bool.true_and, Bool.true_and]
theorem comp3 {x c y : Str} (hx : Wo x) (hy : Wo y) : (compM [x, c, y] namesL).isSome = (decide (c ∈ cmps) && (!decide (x = y) && (sumB [x] && sumB [y]))) := by
  unfold compM
  dsimp only
  by_cases h : c ∈ cmps ∧ x ≠ y
  · rw [if_pos h, decide_eq_true h.1, decide_eq_false h.2, ← term_some hx, ← term_some hy]
    cases termV x namesL <;> cases termV y namesL <;> rfl
  · rw [if_neg h]
    by_cases h1 : c ∈ cmps
    · by_cases h2 : x = y
      · rw [decide_eq_true h2]
        cases decide (c ∈ cmps) <;> rfl
      · exact absurd ⟨h1, h2⟩ h
    · rw [decide_eq_false h1]
      rfl
theorem comp_no {ws : List Str} (h : ws.length ≠ 3) : compM ws namesL = none := by
  unfold compM
  split
  · exact absurd rfl h
  · rfl
theorem words_no : sumB [("used" : Str)] = false ∧ sumB [("bin" : Str)] = false ∧ sumB [("not" : Str)] = false ∧ sumB [("and" : Str)] = false ∧ ("used" : Str) ∉ cmps ∧ ("used" : Str) ∉ knownL ∧ ("is" : Str) ≠ "used" ∧ ("ahead" : Str) ≠ "used" := by decide +kernel
theorem part_some (kd : Str) {ws : List Str} (h : ∀ w ∈ ws, Wo w) : (hPartM kd ws).isSome = partB ws := by
  obtain ⟨n1, n2, n3, n4, n5, n6, n7, n8⟩ := words_no
  unfold hPartM partB
  rw [known_eq]
  match ws, h with
  | [], _ => rfl
  | [x], h =>
    rw [if_neg (by simp), if_neg (by simp), if_neg (by simp), comp_no (by simp)]
    by_cases c : x = "used"
    · subst c
      rfl
    · rw [if_neg (by simp [c]), if_neg (by simp), if_pos (by simp)]
      rfl
  | [x, y], h =>
    rw [if_neg (by simp : ¬ ([x, y].length = 3 ∧ _)), if_neg (by simp : ¬ ([x, y].length = 3 ∧ _)), comp_no (by simp)]
    by_cases c : x = "used"
    · subst c
      rw [if_pos (show (["used", y] : List Str).take 1 = [("used" : Str)] ∨ _ from .inl rfl), decide_eq_true (show (["used", y] : List Str).take ((["used", y] : List Str).length - 1) = [("used" : Str)] ∨ _ from .inl rfl), Bool.true_and]
      by_cases q : y ∈ placesAll
      · rw [if_pos ⟨rfl, rfl, q⟩]; exact (decide_eq_true q).symm
      · rw [if_neg (fun z => q z.2.2)]; exact (decide_eq_false q).symm
    · rw [if_neg (fun z => c z.2.1)]
      show false = _
      by_cases d : [x, y] = [("ahead" : Str), "used"]
      · rw [d]
        decide +kernel
      · rw [if_neg (fun z => z.elim (fun q => c (List.cons.inj q).1) d), if_neg (fun z => by have := congrArg List.length z; simp at this), if_pos (.inl (by simp))]
  | [x, y, z], h =>
    have hx := h x (by simp)
    have hz := h z (by simp)
    rw [if_neg (by simp : ¬ ([x, y, z].length = 2 ∧ _))]
    by_cases c : x = "used"
    · subst c
      rw [if_pos (show (["used", y, z] : List Str).take 1 = [("used" : Str)] ∨ _ from .inl rfl), if_neg (fun q => n8 q.2.1.symm), if_neg (fun q => n6 (by rw [known_eq]; exact q.2.2.2)), comp3 hx hz, n1]
      have e : ¬ ((["used", y, z] : List Str).take ((["used", y, z] : List Str).length - 1) = [("used" : Str)] ∨ (["used", y, z] : List Str).take ((["used", y, z] : List Str).length - 1) = [("ahead" : Str), "used"]) := by
        show ¬ ([("used" : Str), y] = [("used" : Str)] ∨ [("used" : Str), y] = [("ahead" : Str), "used"])
        rintro (q | q)
        · have := congrArg List.length q; simp at this
        · exact n8 (List.cons.inj q).1.symm
      rw [decide_eq_false e]
      cases decide (y ∈ cmps) <;> cases decide (("used" : Str) = z) <;> rfl
    by_cases d : x = "ahead" ∧ y = "used"
    · obtain ⟨rfl, rfl⟩ := d
      rw [if_pos (show (["ahead", "used", z] : List Str).take 1 = [("used" : Str)] ∨ (["ahead", "used", z] : List Str).take 2 = [("ahead" : Str), "used"] from .inr rfl), decide_eq_true (show (["ahead", "used", z] : List Str).take ((["ahead", "used", z] : List Str).length - 1) = [("used" : Str)] ∨ (["ahead", "used", z] : List Str).take ((["ahead", "used", z] : List Str).length - 1) = [("ahead" : Str), "used"] from .inr rfl), Bool.true_and]
      by_cases q : z ∈ placesAll
      · rw [if_pos ⟨rfl, rfl, rfl, q⟩]; exact (decide_eq_true q).symm
      · rw [if_neg (fun w => q w.2.2.2), if_neg (fun w => n7 w.2.1.symm), comp3 (h "ahead" (by simp)) hz, decide_eq_false n5]
        exact (decide_eq_false q).symm
    rw [if_neg (show ¬ ([x, y, z].take 1 = [("used" : Str)] ∨ [x, y, z].take 2 = [("ahead" : Str), "used"]) from fun w => w.elim (fun q => c (List.cons.inj q).1) (fun q => d ⟨(List.cons.inj q).1, (List.cons.inj (List.cons.inj q).2).1⟩))]
    rw [if_neg (fun w => d ⟨w.2.1, w.2.2.1⟩)]
    by_cases e : y = "is" ∧ z = "bin"
    · obtain ⟨rfl, rfl⟩ := e
      rw [if_pos (show ([x, "is", "bin"] : List Str).drop 1 = [("is" : Str), "bin"] from rfl)]
      by_cases q : x ∈ placesAll
      · rw [if_pos ⟨rfl, rfl, rfl, q⟩]; exact (decide_eq_true q).symm
      · rw [if_neg (fun w => q w.2.2.2), comp3 hx hz, n2, show decide (wd [x, "is", "bin"] 0 ∈ placesAll) = false from decide_eq_false q]
        cases decide (("is" : Str) ∈ cmps) <;> cases decide (x = "bin") <;> cases sumB [x] <;> rfl
    rw [if_neg (show ¬ [x, y, z].drop 1 = [("is" : Str), "bin"] from fun w => e ⟨(List.cons.inj w).1, (List.cons.inj (List.cons.inj w).2).1⟩), if_neg (fun w => e ⟨w.2.1, w.2.2.1⟩), comp3 hx hz]
    by_cases f : x = z
    · rw [decide_eq_true f, if_pos (.inr (.inl f))]
      cases decide (y ∈ cmps) <;> rfl
    by_cases g : y ∈ cmps
    · rw [decide_eq_true g, decide_eq_false f, if_neg (fun w => w.elim (fun q => q rfl) (fun q => q.elim f (fun r => r g)))]
      rfl
    · rw [decide_eq_false g, if_pos (.inr (.inr g))]
      rfl
  | x :: y :: z :: u :: r, h =>
    have l3 : (x :: y :: z :: u :: r).length ≠ 3 := by simp
    rw [if_neg (fun w => by have := w.1; simp at this), if_neg (fun w => l3 w.1), if_neg (fun w => l3 w.1), comp_no l3]
    have t3 : 3 ≤ ((x :: y :: z :: u :: r).take ((x :: y :: z :: u :: r).length - 1)).length := by rw [List.length_take]; simp only [List.length_cons]; omega
    have e : ¬ ((x :: y :: z :: u :: r).take ((x :: y :: z :: u :: r).length - 1) = [("used" : Str)] ∨ (x :: y :: z :: u :: r).take ((x :: y :: z :: u :: r).length - 1) = [("ahead" : Str), "used"]) := by
      rintro (q | q) <;> rw [q] at t3 <;> exact absurd t3 (by decide)
    have e2 : ¬ (x :: y :: z :: u :: r).drop 1 = [("is" : Str), "bin"] := fun w => by have := congrArg List.length w; simp at this
    show false = _
    rw [decide_eq_false e, Bool.false_and]
    by_cases f : (x :: y :: z :: u :: r).take 1 = [("used" : Str)] ∨ (x :: y :: z :: u :: r).take 2 = [("ahead" : Str), "used"]
    · rw [if_pos f]
    · rw [if_neg f, if_neg e2, if_pos (.inl l3)]
end K14

set_option Elab.async false
set_option linter.all false
set_option maxRecDepth 100000
set_option maxHeartbeats 8000000
/-! k14, the law: parts of tests, its own reading -/
namespace K14
open PySem L2
theorem Wo.str {w : Str} (h : Wo w) : PyData.strOk w = true := by
  have z := h.wok.sig
  simpa [PyData.canLay0] using z
theorem eq_ws {K : PySem.W.Frag} {H : Hp} {p q : Addr} {a b : List Str} {Q : VK} (hp : H p = some (.lst (a.map V.str))) (hq : H q = some (.lst (b.map V.str))) (oa : ∀ w ∈ a, PyData.strOk w = true) (ob : ∀ w ∈ b, PyData.strOk w = true) (k : Q (.bl (decide (a = b))) H) : rEqD K (.ref p) (.ref q) H Q := by
  refine ⟨.list (a.map .str), .list (b.map .str), .lst (SqL.of hp) (dp_strs _ _ a), .lst (SqL.of hq) (dp_strs _ _ b), shaped_strs oa, shaped_strs ob, ?_⟩
  rw [eqvL]
  exact k
theorem ne_ws {K : PySem.W.Frag} {H : Hp} {p q : Addr} {a b : List Str} {Q : VK} (hp : H p = some (.lst (a.map V.str))) (hq : H q = some (.lst (b.map V.str))) (oa : ∀ w ∈ a, PyData.strOk w = true) (ob : ∀ w ∈ b, PyData.strOk w = true) (k : Q (.bl (!decide (a = b))) H) : rNeD K (.ref p) (.ref q) H Q := by
  refine ⟨.list (a.map .str), .list (b.map .str), .lst (SqL.of hp) (dp_strs _ _ a), .lst (SqL.of hq) (dp_strs _ _ b), shaped_strs oa, shaped_strs ob, ?_⟩
  rw [eqvL]
  exact k
theorem _root_.L2.Room.units65 {k : Nat} {A : Around} (r : Room k A) : A.units + 65 < cLine := by have := r.un; omega
/-- how a slice, a displayed list are read -/
def RdL (σ : L2.St) (H : Hp) (t : TE) (us : List Str) : Prop := ∀ H' Q, Same H H' → (∀ p, H' p = none → Q (.ref p) (upd H' p (.lst (us.map V.str)))) → t σ H' Q
theorem rd_eq {K : PySem.W.Frag} {σ : L2.St} {H : Hp} {Q : VK} {us cs : List Str} {ts tl : TE} (hs : RdL σ H ts us) (hl : RdL σ H tl cs) (ou : ∀ w ∈ us, PyData.strOk w = true) (oc : ∀ w ∈ cs, PyData.strOk w = true) (k : ∀ H', Same H H' → Q (.bl (decide (us = cs))) H') : tOp (rEqD K) ts tl σ H Q := by
  refine hs H _ (fun _ _ e => e) fun p np => hl _ _ (Same.new np) fun q nq => ?_
  exact eq_ws (Same.new nq _ _ upd_same) upd_same ou oc (k _ ((Same.new np).trans (Same.new nq)))
theorem rd_one (σ : L2.St) (H : Hp) (c : Str) : RdL σ H (tLst (tCons (tC (.str c)) tNil)) [c] := fun H' Q _ q => ⟨(by show 1 ≤ sizeLine; decide), q⟩
theorem rd_two (σ : L2.St) (H : Hp) (c d : Str) : RdL σ H (tLst (tCons (tC (.str c)) (tCons (tC (.str d)) tNil))) [c, d] := fun H' Q _ q => ⟨(by show 2 ≤ sizeLine; decide), q⟩
theorem rd_take {K : PySem.W.Frag} {σ : L2.St} {H : Hp} {a : Addr} {ws : List Str} {i n : Nat} (hv : σ[i]? = some (some (.ref a))) (ha : H a = some (.lst (ws.map V.str))) : RdL σ H (tSl (rSlL K) (tVar i) tNoPart (tPart (tC (.int (n : Nat))))) (ws.take n) := fun H' Q s q => by
  refine ⟨_, hv, _, rfl, a, _, rfl, SqL.of (s _ _ ha), fun p np => ?_⟩
  rw [cut_hi]
  exact q p np
theorem rd_drop {K : PySem.W.Frag} {σ : L2.St} {H : Hp} {a : Addr} {ws : List Str} {i n : Nat} (hv : σ[i]? = some (some (.ref a))) (ha : H a = some (.lst (ws.map V.str))) : RdL σ H (tSl (rSlL K) (tVar i) (tPart (tC (.int (n : Nat)))) tNoPart) (ws.drop n) := fun H' Q s q => by
  refine ⟨_, hv, _, rfl, a, _, rfl, SqL.of (s _ _ ha), fun p np => ?_⟩
  rw [cut_lo]
  exact q p np
theorem fix_ok : ∀ w ∈ [("used" : Str), "ahead", "not", "is", "bin", "=", "size", "next", "prev", "free", "no", "quit", "own", "p", "q", "r", "s"], PyData.strOk w = true := by decide +kernel
theorem take_one (ws : List Str) : cutV (ws.map V.str) none (some 1) = (ws.take 1).map V.str := cut_hi ws 1
theorem take_two (ws : List Str) : cutV (ws.map V.str) none (some 2) = (ws.take 2).map V.str := cut_hi ws 2
theorem drop_one (ws : List Str) : cutV (ws.map V.str) (some 1) none = (ws.drop 1).map V.str := cut_lo ws 1
theorem drop_two (ws : List Str) : cutV (ws.map V.str) (some 2) none = (ws.drop 2).map V.str := cut_lo ws 2
theorem but_last (ws : List Str) : cutV (ws.map V.str) none (some (-1)) = (ws.take (ws.length - 1)).map V.str := by
  unfold cutV HT.sIx
  rw [List.length_map, List.map_take]
  show ((ws.map V.str).drop 0).take ((if (-1 : Int) < 0 then (-1 + (ws.length : Int)).toNat else min (-1 : Int).toNat ws.length) - 0) = _
  rw [if_pos (by decide), List.drop_zero]
  congr 1
  omega
def nots (ws : List Str) : List Str := if ws.take 1 = [("not" : Str)] then ws.drop 1 else ws
theorem partD_some (kd : Str) {ws : List Str} (h : ∀ w ∈ ws, Wo w) : (partD (hPartM kd) ws).isSome = partB (nots ws) := by
  unfold partD nots
  rw [Option.isSome_map]
  by_cases c : ws.take 1 = [("not" : Str)]
  · rw [if_neg (fun z => z c), if_pos c]
    exact part_some kd fun w hw => h w (List.drop_subset _ _ hw)
  · rw [if_pos c, if_neg c]
    exact part_some kd h
def spIsPart : Sp := fun vs H Q _ => ∃ (a : Addr) (ws : List Str), vs = [.ref a] ∧ H a = some (.lst (ws.map V.str)) ∧ (∀ w ∈ ws, Wo w) ∧ ws.length ≤ 1000 ∧ ∀ H', Same H H' → Q (.bl (partD (hPartM "take") ws).isSome) H'
abbrev nmIsPart : List Str := ["_law_words"]
theorem scIsPart : FnScope nmIsPart ["_law_words"] (defScope sIsPart) := ⟨rfl, rfl, rfl, by decide +kernel, rfl, by decide +kernel, by decide +kernel⟩
section
variable {P : Program} {w : World} {K : PySem.W.Frag} {mg : Str → Option Value} {base : Heap}
theorem ok_ispart {f fS fP : Addr} {fd fdS fdP : FuncData} (F : Fun K "_law_is_part" "_law_is_part" sIsPart f fd) (T : TxtN mg)
    (GS : FnOk P w K mg base CX0 2 fS fdS ["_law_words"] spIsSum) (kS : PySem.W.keepIn K (.ref fS) = true) (bS : Binds K fdS ["_law_words"] []) (gS : mg "_law_is_sum" = some (.ref fS))
    (GP : FnOk P w K mg base CX0 1 fP fdP [] (spList placesAll)) (kP : PySem.W.keepIn K (.ref fP) = true) (bP : Binds K fdP [] []) (gP : mg "_law_places" = some (.ref fP)) : FnOk P w K mg base CX0 3 f fd ["_law_words"] spIsPart := by
  have sc := scIsPart
  refine F.ok scIsPart (fun vs H Q E h => ?_) (fun cdv A outer s H vs Q E hr h => ?_)
  · obtain ⟨a, ws, rfl, _⟩ := h
    rfl
  · obtain ⟨a0, ws0, rfl, ha0, hw0, hl0, k⟩ := h
    have hr1 : Room 1 _ := hr.mono (by decide)
    have fx : ∀ w ∈ [("used" : Str), "ahead", "not", "is", "bin"], PyData.strOk w = true := by decide +kernel
    have f1 : ∀ c ∈ [("used" : Str), "ahead", "not", "is", "bin"], ∀ w ∈ [c], PyData.strOk w = true := fun c hc w hw => by rw [List.mem_singleton.mp hw]; exact fx c hc
    have f2 : ∀ w ∈ [("ahead" : Str), "used"], PyData.strOk w = true := by decide +kernel
    have f3 : ∀ w ∈ [("is" : Str), "bin"], PyData.strOk w = true := by decide +kernel
    obtain ⟨tR, pR, rR⟩ : ∃ tR, PSs (cxOf CX0 P w K mg base nmIsPart "_law_is_part" (defScope sIsPart) f cdv A outer s H E).nox ((defBody sIsPart).drop 1) tR ∧
        ∀ (D : Ends) (a : Addr) (ws : List Str) (G : Hp), (∀ w ∈ ws, Wo w) → ws.length ≤ 1000 → G a = some (.lst (ws.map V.str)) → (∀ H', Same G H' → D.rt (.bl (partB ws)) H') → tR D [some (.ref a)] G := by
      refine ⟨_, pss_cons (ps_if (PW.pt (pw_or (pt_cmpR (op_eqD hr.units) (pe_slice sl_list (pv 0) po_none (po_some pe_int)) (pe_lst (pa_cons pe_str pa_nil)) (nomark _)) (pw_or1 (pt_cmpR (op_eqD hr.units) (pe_slice sl_list (pv 0) po_none (po_some pe_int)) (pe_lst (pa_cons pe_str (pa_cons pe_str pa_nil))) (nomark _)))))
        (pss_one (ps_ret (pe_and (pe_cmpR (op_inD hr.units65) (pe_slice sl_list (pv 0) po_none (po_some (pe_un un_neg pe_int))) (pe_lst (pa_cons (pe_lst (pa_cons pe_str pa_nil)) (pa_cons (pe_lst (pa_cons pe_str (pa_cons pe_str pa_nil))) pa_nil))) (by rfl)) (pe_one (pe_cmpR op_in_seq (pe_ix ix_list (pv 0) (pe_un un_neg pe_int) (fun _ _ => rfl)) (pe_call0 GP hr1 rfl gP kP bP .nil pass0) (by rfl)))))) pss_nil)
        (pss_cons (ps_if (pt_cmpR (op_eqD hr.units) (pe_slice sl_list (pv 0) (po_some pe_int) po_none) (pe_lst (pa_cons pe_str (pa_cons pe_str pa_nil))) (nomark _)) (pss_one (ps_ret (pe_cmpR op_in_seq (pe_ix ix_list (pv 0) pe_int (fun _ _ => rfl)) (pe_call0 GP hr1 rfl gP kP bP .nil pass0) (by rfl)))) pss_nil)
        (pss_cons (ps_if (PW.pt (pw_or (pt_cmpR op_ne (pe_callB call_len_seq (by rfl) T.len PySem.boot_len (pa_cons (pv 0) pa_nil)) pe_int (nomark _)) (pw_or (pt_cmpR op_eq (pe_ix ix_list (pv 0) pe_int (fun _ _ => rfl)) (pe_ix ix_list (pv 0) pe_int (fun _ _ => rfl)) (nomark _)) (pw_or1 (pt_cmpR op_notIn_seq (pe_ix ix_list (pv 0) pe_int (fun _ _ => rfl)) (pe_lst (pa_cons pe_str (pa_cons pe_str (pa_cons pe_str pa_nil)))) (by rfl)))))) (pss_one (ps_ret pe_bl)) pss_nil)
        (pss_one (ps_ret (pe_and (pe_call GS hr rfl gS kS bS .nil pass0 (pa_cons (pe_slice sl_list (pv 0) po_none (po_some pe_int)) pa_nil)) (pe_one (pe_call GS hr rfl gS kS bS .nil pass0 (pa_cons (pe_slice sl_list (pv 0) (po_some pe_int) po_none) pa_nil)))))))), ?_⟩
      intro D a ws G hw hl ha k
      have hs : ∀ w ∈ ws, PyData.strOk w = true := fun w h => (hw w h).str
      have hst : ∀ n, ∀ w ∈ ws.take n, PyData.strOk w = true := fun n w h => hs w (List.take_subset _ _ h)
      have hsd : ∀ n, ∀ w ∈ ws.drop n, PyData.strOk w = true := fun n w h => hs w (List.drop_subset _ _ h)
      refine rd_eq (us := ws.take 1) (cs := ["used"]) (rd_take (n := 1) rfl ha) (rd_one _ _ _) (hst 1) (f1 _ (by simp)) fun G1 s1 => ?_
      refine ⟨_, rfl, ?_⟩
      -- used, ahead used
      have usedP : (ws.take 1 = [("used" : Str)] ∨ ws.take 2 = [("ahead" : Str), "used"]) → ∀ G2, Same G G2 → tRet (tAndV (tOp (rInD K) (tSl (rSlL K) (tVar 0) tNoPart (tPart (tUn (rU fun i => V.int (-i)) (tC (.int 1))))) (tLst (tCons (tLst (tCons (tC (.str "used")) tNil)) (tCons (tLst (tCons (tC (.str "ahead")) (tCons (tC (.str "used")) tNil))) tNil))))
          (tOp (rIn K false) (tOp (rIxL K) (tVar 0) (tUn (rU fun i => V.int (-i)) (tC (.int 1)))) (tCall (spList placesAll) [] E0 tNil))) D [some (.ref a)] G2 := by
        intro hc G2 s2
        have g2 := s2 _ _ ha
        have ne : 0 < ws.length := by
          rcases hc with q | q <;> (cases z : ws with | nil => rw [z] at q; cases q | cons _ _ => simp)
        refine ⟨_, rfl, _, rfl, _, rfl, a, _, rfl, SqL.of g2, fun p np => ?_⟩
        rw [but_last]
        have t1 := Same.new (o := .lst ((ws.take (ws.length - 1)).map V.str)) np
        refine ⟨(by show 1 ≤ sizeLine; decide), fun q nq => ?_⟩
        have t2 := Same.new (o := .lst [.str "used"]) nq
        refine ⟨(by show 2 ≤ sizeLine; decide), fun r nr => ?_⟩
        have t3 := Same.new (o := .lst [.str "ahead", .str "used"]) nr
        refine ⟨(by show 2 ≤ sizeLine; decide), fun u nu => ?_⟩
        have t4 := Same.new (o := .lst [.ref q, .ref r]) nu
        have sAll := s2.trans (t1.trans (t2.trans (t3.trans t4)))
        refine ⟨.list ((ws.take (ws.length - 1)).map .str), [.list ([("used" : Str)].map .str), .list ([("ahead" : Str), "used"].map .str)], .lst (SqL.of ((t2.trans (t3.trans t4)) _ _ upd_same)) (dp_strs _ _ _),
          .lst (SqL.of upd_same) (.cons (.lst (SqL.of ((t3.trans t4) _ _ upd_same)) (dp_strs _ _ [("used" : Str)])) (.cons (.lst (SqL.of (t4 _ _ upd_same)) (dp_strs _ _ [("ahead" : Str), "used"])) .nil)), shaped_strs (hst _), by decide +kernel, ?_⟩
        have ev : ([.list ([("used" : Str)].map .str), .list ([("ahead" : Str), "used"].map .str)] : List PyData).any (fun z => PyData.eqv z (.list ((ws.take (ws.length - 1)).map .str))) = decide (ws.take (ws.length - 1) = [("used" : Str)] ∨ ws.take (ws.length - 1) = [("ahead" : Str), "used"]) := by
          rw [List.any_cons, List.any_cons, List.any_nil, Bool.or_false, eqvL, eqvL, ← Bool.decide_or]
          exact decide_eq_decide.mpr ⟨fun z => z.imp Eq.symm Eq.symm, fun z => z.imp Eq.symm Eq.symm⟩
        rw [ev]
        have pb : partB ws = (decide (ws.take (ws.length - 1) = [("used" : Str)] ∨ ws.take (ws.length - 1) = [("ahead" : Str), "used"]) && decide (wd ws (ws.length - 1) ∈ placesAll)) := by unfold partB; rw [if_pos hc]
        refine ⟨_, rfl, ?_⟩
        by_cases c : ws.take (ws.length - 1) = [("used" : Str)] ∨ ws.take (ws.length - 1) = [("ahead" : Str), "used"]
        · refine ifT3 (decide_eq_true c) ?_
          refine ⟨_, rfl, _, rfl, a, _, _, _, rfl, rfl, SqL.of (sAll _ _ ha), at_neg (i := 1) (by decide) ne, rfl, fun R G5 s5 gR => ?_⟩
          refine ⟨R, _, rfl, .inl (SqL.of gR), rfl, flat_str _, ?_⟩
          rw [inV_str]
          have z := k _ (sAll.trans s5)
          rw [pb, decide_eq_true c, Bool.true_and] at z
          exact z
        · refine ifF3 (decide_eq_false c) ?_
          have z := k _ sAll
          rw [pb, decide_eq_false c, Bool.false_and] at z
          exact z
      by_cases c1 : ws.take 1 = [("used" : Str)]
      · refine ifT3 (decide_eq_true c1) ?_
        refine iteT ?_
        exact usedP (.inl c1) _ s1
      refine ifF3 (decide_eq_false c1) ?_
      refine rd_eq (us := ws.take 2) (cs := ["ahead", "used"]) (rd_take (n := 2) rfl (s1 _ _ ha)) (rd_two _ _ _ _) (hst 2) f2 fun G2 s2 => ?_
      refine ⟨_, rfl, ?_⟩
      by_cases c2 : ws.take 2 = [("ahead" : Str), "used"]
      · refine ifT3 (decide_eq_true c2) ?_
        exact usedP (.inr c2) _ (s1.trans s2)
      refine ifF3 (decide_eq_false c2) ?_
      refine nxt ?_
      dsimp only
      have c12 : ¬ (ws.take 1 = [("used" : Str)] ∨ ws.take 2 = [("ahead" : Str), "used"]) := fun z => z.elim c1 c2
      have u2 := s1.trans s2
      refine rd_eq (us := ws.drop 1) (cs := ["is", "bin"]) (rd_drop (n := 1) rfl (u2 _ _ ha)) (rd_two _ _ _ _) (hsd 1) f3 fun G3 s3 => ?_
      have u3 := u2.trans s3
      have g3 := u3 _ _ ha
      refine ⟨_, rfl, ?_⟩
      by_cases c3 : ws.drop 1 = [("is" : Str), "bin"]
      · refine ifT3 (decide_eq_true c3) ?_
        have l3 : ws.length = 3 := by
          have := congrArg List.length c3
          rw [List.length_drop] at this
          simp at this
          omega
        refine ⟨_, rfl, a, _, _, _, rfl, rfl, SqL.of g3, at_pos (i := 0) (by omega), rfl, fun R G5 s5 gR => ?_⟩
        refine ⟨R, _, rfl, .inl (SqL.of gR), rfl, flat_str _, ?_⟩
        rw [inV_str]
        have z := k _ (u3.trans s5)
        rw [show partB ws = decide (wd ws 0 ∈ placesAll) by unfold partB; rw [if_neg c12, if_pos c3]] at z
        exact z
      refine ifF3 (decide_eq_false c3) ?_
      refine nxt ?_
      dsimp only
      have lw : (ws.map V.str).length = ws.length := List.length_map ..
      have pb : partB ws = if ws.length ≠ 3 ∨ wd ws 0 = wd ws 2 ∨ wd ws 1 ∉ cmps then false else sumB (ws.take 1) && sumB (ws.drop 2) := by
        unfold partB
        rw [if_neg c12, if_neg c3]
      refine ⟨_, rfl, a, _, rfl, .inl (SqL.of g3), rfl, _, rfl, ?_⟩
      rw [lw]
      by_cases c4 : ws.length = 3
      case neg =>
        refine ifT3 (show (!decide (V.int (ws.length : Nat) = V.int 3)) = true by rw [decide_eq_false (fun z => c4 (by have := V.int.inj z; omega))]; rfl) ?_
        refine iteT ?_
        have z := k _ u3
        rw [pb, if_pos (.inl c4)] at z
        exact z
      refine ifF3 (show (!decide (V.int (ws.length : Nat) = V.int 3)) = false by rw [c4]; rfl) ?_
      refine ⟨_, rfl, a, _, _, _, rfl, rfl, SqL.of g3, at_pos (i := 0) (by omega), _, rfl, a, _, _, _, rfl, rfl, SqL.of g3, at_pos (i := 2) (by omega), rfl, _, rfl, ?_⟩
      by_cases c5 : wd ws 0 = wd ws 2
      · refine ifT3 (decide_eq_true (congrArg V.str c5)) ?_
        refine iteT ?_
        have z := k _ u3
        rw [pb, if_pos (.inr (.inl c5))] at z
        exact z
      refine ifF3 (decide_eq_false fun z => c5 (V.str.inj z)) ?_
      refine ⟨_, rfl, a, _, _, _, rfl, rfl, SqL.of g3, at_pos (i := 1) (by omega), (by show 3 ≤ sizeLine; decide), fun S nS => ?_⟩
      have u4 := u3.trans (Same.new (o := .lst [.str "<", .str "<=", .str "is"]) nS)
      refine ⟨S, _, rfl, .inl (SqL.of upd_same), rfl, rfl, _, rfl, ?_⟩
      have es : inV (.str (wd ws 1)) [.str "<", .str "<=", .str "is"] = decide (wd ws 1 ∈ cmps) := inV_str _ cmps
      by_cases c6 : wd ws 1 ∈ cmps
      case neg =>
        refine ifT3 (show (!inV (.str (wd ws 1)) [.str "<", .str "<=", .str "is"]) = true by rw [es, decide_eq_false c6]; rfl) ?_
        have z := k _ u4
        rw [pb, if_pos (.inr (.inr c6))] at z
        exact z
      refine ifF3 (show (!inV (.str (wd ws 1)) [.str "<", .str "<=", .str "is"]) = false by rw [es, decide_eq_true c6]; rfl) ?_
      refine nxt ?_
      dsimp only
      have pb2 : partB ws = (sumB (ws.take 1) && sumB (ws.drop 2)) := by
        rw [pb, if_neg]
        rintro (z | z | z)
        · exact z c4
        · exact c5 z
        · exact z c6
      refine rd_take (K := K) (n := 1) rfl (u4 _ _ ha) _ _ (fun _ _ e => e) fun p np => ?_
      have u5 := u4.trans (Same.new (o := .lst ((ws.take 1).map V.str)) np)
      refine ⟨p, ws.take 1, rfl, upd_same, fun w h => hw w (List.take_subset _ _ h), Nat.le_trans (List.length_take_le' _ _) hl, fun G6 s6 => ?_⟩
      have u6 := u5.trans s6
      refine ⟨_, rfl, ?_⟩
      cases c7 : sumB (ws.take 1) with
      | false =>
        refine iteF ?_
        have z := k _ u6
        rw [pb2, c7, Bool.false_and] at z
        exact z
      | true =>
        refine iteT ?_
        refine rd_drop (K := K) (n := 2) rfl (u6 _ _ ha) _ _ (fun _ _ e => e) fun q nq => ?_
        have u7 := u6.trans (Same.new (o := .lst ((ws.drop 2).map V.str)) nq)
        refine ⟨q, ws.drop 2, rfl, upd_same, fun w h => hw w (List.drop_subset _ _ h), by rw [List.length_drop]; omega, fun G8 s8 => ?_⟩
        have z := k _ (u7.trans s8)
        rw [pb2, c7, Bool.true_and] at z
        exact z
    refine ⟨_, pss_cons (ps_set (i := 0) sc.nd rfl (.inl rfl) (pe_ifExp (pt_cmpR (op_eqD hr.units) (pe_slice sl_list (pv 0) po_none (po_some pe_int)) (pe_lst (pa_cons pe_str pa_nil)) (nomark _)) (pe_slice sl_list (pv 0) (po_some pe_int) po_none) (pv 0))) pR, ?_⟩
    rw [partD_some "take" hw0] at k
    have hs0 : ∀ w ∈ ws0, PyData.strOk w = true := fun w hw => (hw0 w hw).str
    refine rd_eq (us := ws0.take 1) (cs := ["not"]) (rd_take (n := 1) rfl ha0) (rd_one _ _ _) (fun w hw => hs0 w (List.take_subset _ _ hw)) (f1 _ (by simp)) fun H1 s1 => ?_
    refine ⟨_, rfl, ?_⟩
    by_cases c : ws0.take 1 = [("not" : Str)]
    · refine ifT3 (decide_eq_true c) ?_
      refine rd_drop (K := K) (n := 1) rfl (s1 _ _ ha0) H1 _ (fun _ _ e => e) fun p np => ?_
      have s2 := s1.trans (Same.new (o := .lst ((ws0.drop 1).map V.str)) np)
      refine rR _ p (ws0.drop 1) _ (fun w h => hw0 w (List.drop_subset _ _ h)) (by rw [List.length_drop]; omega) upd_same fun G sG => ?_
      have z := k _ (s2.trans sG)
      rw [show nots ws0 = ws0.drop 1 from if_pos c] at z
      exact z
    · refine ifF3 (decide_eq_false c) ?_
      refine ⟨_, rfl, ?_⟩
      refine rR _ a0 ws0 _ hw0 hl0 (s1 _ _ ha0) fun G sG => ?_
      have z := k _ (s1.trans sG)
      rw [show nots ws0 = ws0 from if_neg c] at z
      exact z
end
end K14

set_option Elab.async false
set_option linter.all false
set_option maxRecDepth 100000
set_option maxHeartbeats 8000000
/-! k14: lines that set, alike -/
namespace K14
open PySem L2
/-- a right setting: the word ahead of the equals sign, the words behind it -/
def setB (w0 : Str) (t : List Str) : Bool :=
  if w0 ∈ regsL then (if t.take 1 = [("size" : Str)] then decide (t.drop 1 ∈ (placesAll.map fun p => [p]) ++ (placesAll.map fun p => [("ahead" : Str), p])) else sumB t)
  else if w0 ∉ placesAll.drop 1 ∨ t = [] then false
  else if wd t 0 ∈ linksL then decide (t.length = 2) && decide (wd t 1 ∈ placesAll ++ [("bin" : Str)])
  else if wd t 0 ∉ placesAll ∨ (1 < t.length ∧ wd t 1 ∉ [("+" : Str), "-"]) then false
  else decide (t.length = 1) || sumB (t.drop 2)
theorem size_no : ("size" : Str) ∉ namesL ∧ numB "size" = false ∧ (∀ p ∈ placesAll, p ≠ "ahead") ∧ (∀ p ∈ linksL, p ∉ placesAll) ∧ Str.empty ≠ "size" := by decide +kernel
theorem sum_size (r : List Str) : sumB (("size" : Str) :: r) = false := by
  have h : okGo (evens (("size" : Str) :: r)) [] = false := by
    have e : ∃ q, evens (("size" : Str) :: r) = ("size" : Str) :: q := by
      cases r with
      | nil => exact ⟨[], rfl⟩
      | cons a r => exact ⟨_, rfl⟩
    obtain ⟨q, e⟩ := e
    rw [e]
    unfold okGo
    rw [if_neg size_no.1, size_no.2.1]
    rfl
  unfold sumB
  rw [h, Bool.and_false, Bool.and_false]
theorem one_of {t : List Str} (h : t.take 1 = [("size" : Str)]) : ∃ r, t = ("size" : Str) :: r := by
  cases t with
  | nil => cases h
  | cons a r => exact ⟨r, by rw [(List.cons.inj h).1]⟩
theorem reg_some {w0 w1 : Str} {t : List Str} (h : ∀ w ∈ t, Wo w) : (regM (w0 :: w1 :: t)).isSome = if t.take 1 = [("size" : Str)] then decide (t.drop 1 ∈ (placesAll.map fun p => [p]) ++ (placesAll.map fun p => [("ahead" : Str), p])) else sumB t := by
  have hs : ((sumM ((w0 :: w1 :: t).drop 2) namesL).map fun acc => PyData.tuple [.str "set", .str (wd (w0 :: w1 :: t) 0), sumD acc]).isSome = sumB t := by
    rw [Option.isSome_map]
    exact sum_some h
  unfold regM
  by_cases c : t.take 1 = [("size" : Str)]
  · obtain ⟨r, rfl⟩ := one_of c
    rw [if_pos c]
    show _ = decide (r ∈ (placesAll.map fun p => [p]) ++ (placesAll.map fun p => [("ahead" : Str), p]))
    by_cases c1 : (w0 :: w1 :: "size" :: r).length = 4 ∧ wd (w0 :: w1 :: "size" :: r) 2 = "size" ∧ wd (w0 :: w1 :: "size" :: r) 3 ∈ knownL
    · rw [if_pos c1]
      obtain ⟨l, _, m⟩ := c1
      obtain ⟨p, rfl⟩ : ∃ p, r = [p] := by
        match r, l with
        | [p], _ => exact ⟨p, rfl⟩
      refine (decide_eq_true ?_).symm
      exact List.mem_append_left _ (List.mem_map.mpr ⟨p, m, rfl⟩)
    rw [if_neg c1]
    by_cases c2 : (w0 :: w1 :: "size" :: r).length = 5 ∧ wd (w0 :: w1 :: "size" :: r) 2 = "size" ∧ wd (w0 :: w1 :: "size" :: r) 3 = "ahead" ∧ wd (w0 :: w1 :: "size" :: r) 4 ∈ knownL
    · rw [if_pos c2]
      obtain ⟨l, _, e, m⟩ := c2
      obtain ⟨p, q, rfl⟩ : ∃ p q, r = [p, q] := by
        match r, l with
        | [p, q], _ => exact ⟨p, q, rfl⟩
      have e : p = "ahead" := e
      refine (decide_eq_true ?_).symm
      rw [e]
      exact List.mem_append_right _ (List.mem_map.mpr ⟨q, m, rfl⟩)
    rw [if_neg c2, hs, sum_size]
    refine (decide_eq_false fun z => ?_).symm
    rcases List.mem_append.mp z with z | z
    · obtain ⟨p, hp, rfl⟩ := List.mem_map.mp z
      exact c1 ⟨rfl, rfl, hp⟩
    · obtain ⟨p, hp, rfl⟩ := List.mem_map.mp z
      exact c2 ⟨rfl, rfl, rfl, hp⟩
  · have n : ¬ wd (w0 :: w1 :: t) 2 = "size" := fun z => by
      cases t with
      | nil => exact size_no.2.2.2.2 z
      | cons a r => exact c (by rw [show a = "size" from z]; rfl)
    rw [if_neg c, if_neg (fun z => n z.2.1), if_neg (fun z => n z.2.1), hs]
theorem place_some {w0 w1 : Str} {t : List Str} (h : ∀ w ∈ t, Wo w) : (placeM (w0 :: w1 :: t)).isSome =
    if t = [] then false else if wd t 0 ∈ linksL then decide (t.length = 2) && decide (wd t 1 ∈ placesAll ++ [("bin" : Str)])
    else if wd t 0 ∉ placesAll ∨ (1 < t.length ∧ wd t 1 ∉ [("+" : Str), "-"]) then false else decide (t.length = 1) || sumB (t.drop 2) := by
  have l2 : (w0 :: w1 :: t).length = t.length + 2 := rfl
  have e2 : wd (w0 :: w1 :: t) 2 = wd t 0 := rfl
  have e3 : wd (w0 :: w1 :: t) 3 = wd t 1 := rfl
  unfold placeM
  rw [l2, e2, e3] at *
  cases t with
  | nil =>
    rw [if_neg (fun z => by have := z.1; simp at this), if_pos (.inl (by simp)), if_pos rfl]
    rfl
  | cons a r =>
    rw [if_neg (show ¬ (a :: r) = [] from fun z => nomatch z)]
    by_cases c : wd (a :: r) 0 ∈ linksL
    · rw [if_pos c]
      have nk : ¬ wd (a :: r) 0 ∈ knownL := size_no.2.2.2.1 _ c
      by_cases d : (a :: r).length = 2 ∧ wd (a :: r) 1 ∈ linkedL
      · rw [if_pos ⟨by rw [d.1], c, d.2⟩, decide_eq_true d.1]
        exact (decide_eq_true d.2).symm
      · rw [if_neg (fun z => d ⟨by have := z.1; omega, z.2.2⟩), if_pos (.inr nk)]
        by_cases q : (a :: r).length = 2
        · rw [decide_eq_true q]
          exact (decide_eq_false (fun z => d ⟨q, z⟩)).symm
        · rw [decide_eq_false q]
          rfl
    rw [if_neg c, if_neg (fun z => c z.2.1)]
    by_cases k : wd (a :: r) 0 ∈ placesAll
    case neg => rw [if_pos (.inr k), if_pos (.inl k)]; rfl
    rw [if_neg (fun z => z.elim (fun q => by simp at q; omega) (fun q => q k))]
    by_cases o : (a :: r).length = 1
    · rw [if_pos (by rw [o]), if_neg (fun z => z.elim (fun q => q k) (fun q => by omega)), decide_eq_true o]
      rfl
    rw [if_neg (by omega), decide_eq_false o, Bool.false_or]
    have l1 : 1 < (a :: r).length := by
      have : 0 < (a :: r).length := by simp
      omega
    by_cases g : wd (a :: r) 1 = "+" ∨ wd (a :: r) 1 = "-"
    · rw [if_neg (show ¬ ¬ (wd (a :: r) 1 = "+" ∨ wd (a :: r) 1 = "-") from fun z => z g), if_neg (show ¬ (wd (a :: r) 0 ∉ placesAll ∨ (1 < (a :: r).length ∧ wd (a :: r) 1 ∉ [("+" : Str), "-"])) from fun z => z.elim (fun q => q k) (fun q => q.2 (by simpa using g))), Option.isSome_map]
      exact sum_some (ws := (a :: r).drop 2) fun w hw => h w (List.drop_subset _ _ hw)
    · rw [if_pos g, if_pos (.inr ⟨l1, fun z => g (by simpa using z)⟩)]
      rfl
theorem set_some {w0 w1 : Str} {t : List Str} (h : ∀ w ∈ t, Wo w) : (if w0 ∈ regsL then regM (w0 :: w1 :: t) else if w0 ∈ placesL then placeM (w0 :: w1 :: t) else none).isSome = setB w0 t := by
  unfold setB
  by_cases c : w0 ∈ regsL
  · rw [if_pos c, if_pos c, reg_some h]
  rw [if_neg c, if_neg c]
  by_cases d : w0 ∈ placesL
  · rw [if_pos d, place_some h]
    by_cases e : t = []
    · rw [if_pos e, if_pos (.inr e)]
    · rw [if_neg e, if_neg (show ¬ (w0 ∉ placesAll.drop 1 ∨ t = []) from fun z => z.elim (fun q => q d) e)]
  · rw [if_neg d, if_pos (.inl d)]
    rfl
end K14

set_option Elab.async false
set_option linter.all false
set_option maxRecDepth 100000
set_option maxHeartbeats 8000000
/-! k14, the law: lines that set -/
namespace K14
open PySem L2
abbrev sIsSet : Stmt := top 74
/-- lists of texts, one behind the other -/
inductive LsAt (H : Hp) : List V → List (List Str) → Prop
  | nil : LsAt H [] []
  | cons {a : Addr} {b : List Str} {xs : List V} {bs : List (List Str)} (h : H a = some (.lst (b.map V.str))) (t : LsAt H xs bs) : LsAt H (.ref a :: xs) (b :: bs)
theorem LsAt.keep {H G : Hp} {xs : List V} {bs : List (List Str)} (h : LsAt H xs bs) (s : Same H G) : LsAt G xs bs := by
  induction h with
  | nil => exact .nil
  | cons h _ ih => exact .cons (s _ _ h) ih
theorem LsAt.app {H : Hp} {xs ys : List V} {bs cs : List (List Str)} (h : LsAt H xs bs) (k : LsAt H ys cs) : LsAt H (xs ++ ys) (bs ++ cs) := by
  induction h with
  | nil => exact k
  | cons h _ ih => exact .cons h ih
theorem LsAt.write {H : Hp} {D : Addr} {o : HO} {xs : List V} {bs : List (List Str)} (h : LsAt H xs bs) (n : ∀ v ∈ xs, v ≠ .ref D) : LsAt (upd H D o) xs bs := by
  induction h with
  | nil => exact .nil
  | @cons a b xs bs h _ ih =>
    refine .cons ?_ (ih fun v hv => n v (List.mem_cons_of_mem _ hv))
    rw [upd_ne fun z => n (.ref a) (List.mem_cons_self ..) (by rw [z])]
    exact h
theorem LsAt.len {H : Hp} {xs : List V} {bs : List (List Str)} (h : LsAt H xs bs) : xs.length = bs.length := by
  induction h with
  | nil => rfl
  | cons _ _ ih => simp [ih]
theorem LsAt.dp {K : PySem.W.Frag} {H : Hp} {xs : List V} {bs : List (List Str)} (h : LsAt H xs bs) : DpAll K H xs (bs.map fun b => .list (b.map .str)) := by
  induction h with
  | nil => exact .nil
  | cons h _ ih => exact .cons (.lst (SqL.of h) (dp_strs _ _ _)) ih
theorem any_eqv (u : List Str) : ∀ bs : List (List Str), (bs.map fun b => PyData.list (b.map .str)).any (fun z => PyData.eqv z (.list (u.map .str))) = decide (u ∈ bs)
  | [] => rfl
  | b :: r => by
    rw [List.map_cons, List.any_cons, any_eqv u r, eqvL, ← Bool.decide_or]
    exact decide_eq_decide.mpr ⟨fun z => z.elim (fun q => q ▸ List.mem_cons_self ..) (List.mem_cons_of_mem _), fun z => (List.mem_cons.mp z).imp Eq.symm id⟩
def onesL (ps : List Str) : List (List Str) := ps.map fun p => [p]
def aheadsL (ps : List Str) : List (List Str) := ps.map fun p => [("ahead" : Str), p]
theorem sizes_shaped : SeqAt.shaped (.list (((placesAll.map fun p => [p]) ++ (placesAll.map fun p => [("ahead" : Str), p])).map fun b => PyData.list (b.map .str))) = true := by decide +kernel
abbrev nmIsSet : List Str := ["_law_words", "_law_told_here", "_law_places_here", "_law_place"]
theorem scIsSet : FnScope nmIsSet ["_law_words"] (defScope sIsSet) := ⟨rfl, rfl, rfl, by decide +kernel, rfl, by decide +kernel, by decide +kernel⟩
def spIsSet : Sp := fun vs H Q _ => ∃ (a : Addr) (w0 w1 : Str) (t : List Str), vs = [.ref a] ∧ H a = some (.lst ((w0 :: w1 :: t).map V.str)) ∧ (∀ w ∈ t, Wo w) ∧ t.length ≤ 900 ∧ ∀ H', Same H H' → Q (.bl (setB w0 t)) H'
section
variable {P : Program} {w : World} {K : PySem.W.Frag} {mg : Str → Option Value} {base : Heap}
theorem ok_isset {f fS fP : Addr} {fd fdS fdP : FuncData} (F : Fun K "_law_is_setting" "_law_is_setting" sIsSet f fd) (T : TxtN mg)
    (GS : FnOk P w K mg base CX0 2 fS fdS ["_law_words"] spIsSum) (kS : PySem.W.keepIn K (.ref fS) = true) (bS : Binds K fdS ["_law_words"] []) (gS : mg "_law_is_sum" = some (.ref fS))
    (GP : FnOk P w K mg base CX0 1 fP fdP [] (spList placesAll)) (kP : PySem.W.keepIn K (.ref fP) = true) (bP : Binds K fdP [] []) (gP : mg "_law_places" = some (.ref fP)) : FnOk P w K mg base CX0 3 f fd ["_law_words"] spIsSet := by
  have sc := scIsSet
  refine F.ok scIsSet (fun vs H Q E h => ?_) (fun cdv A outer s H vs Q E hr h => ?_)
  · obtain ⟨a, w0, w1, t, rfl, _⟩ := h
    rfl
  · obtain ⟨a, w0, w1, t, rfl, ha, hw, hl, k⟩ := h
    have hr1 : Room 1 _ := hr.mono (by decide)
    refine ⟨_, pss_cons (ps_par (i := 1) (j := 2) rfl sc.nd rfl rfl (by decide) rfl rfl (pa_cons (pe_slice sl_list (pv 0) (po_some pe_int) po_none) (pa_cons (pe_call0 GP hr1 rfl gP kP bP .nil pass0) pa_nil)) (by rfl))
      (pss_cons (ps_if (pt_cmpR op_in_seq (pe_ix ix_list (pv 0) pe_int (fun _ _ => rfl)) (pe_lst (pa_cons pe_str (pa_cons pe_str (pa_cons pe_str pa_nil)))) (by rfl))
        (pss_cons (ps_if (pt_cmpR (op_eqD hr.units) (pe_slice sl_list (pv 1) po_none (po_some pe_int)) (pe_lst (pa_cons pe_str pa_nil)) (nomark _))
          (pss_one (ps_ret (pe_cmpR (op_inD hr.units65) (pe_slice sl_list (pv 1) (po_some pe_int) po_none)
            (pe_op op_cat (pe_lc (own := [("_law_place", 3)]) (g := gName 3) (te := tLst (tCons (tVar 3) tNil)) rfl sc.nd (by exact pi_list (pv 2)) (blkOk_by (own := [("_law_place", 3)]) (N := nmIsSet) (sc := defScope sIsSet) (by decide +kernel)) (fun _ _ _ _ _ => pg_name (i := 3) sc.nd rfl (Or.inl rfl)) (fun _ _ _ _ _ => pts_nil) (fun _ _ _ _ _ => pe_lst (pa_cons (pv 3) pa_nil)))
              (pe_lc (own := [("_law_place", 3)]) (g := gName 3) (te := tLst (tCons (tC (.str "ahead")) (tCons (tVar 3) tNil))) rfl sc.nd (by exact pi_list (pv 2)) (blkOk_by (own := [("_law_place", 3)]) (N := nmIsSet) (sc := defScope sIsSet) (by decide +kernel)) (fun _ _ _ _ _ => pg_name (i := 3) sc.nd rfl (Or.inl rfl)) (fun _ _ _ _ _ => pts_nil) (fun _ _ _ _ _ => pe_lst (pa_cons pe_str (pa_cons (pv 3) pa_nil))))) (by rfl)))) pss_nil)
        (pss_one (ps_ret (pe_call GS hr rfl gS kS bS .nil pass0 (pa_cons (pv 1) pa_nil))))) pss_nil)
      (pss_cons (ps_if (PW.pt (pw_or (pt_cmpR op_notIn_seq (pe_ix ix_list (pv 0) pe_int (fun _ _ => rfl)) (pe_slice sl_list (pv 2) (po_some pe_int) po_none) (by rfl)) (pw_or1 (pt_cmpR (op_eqD hr.units) (pv 1) (pe_lst pa_nil) (nomark _))))) (pss_one (ps_ret pe_bl)) pss_nil)
      (pss_cons (ps_if (pt_cmpR op_in_seq (pe_ix ix_list (pv 1) pe_int (fun _ _ => rfl)) (pe_lst (pa_cons pe_str (pa_cons pe_str pa_nil))) (by rfl))
        (pss_one (ps_ret (pe_and (pe_cmpR op_eq (pe_callB call_len_seq (by rfl) T.len PySem.boot_len (pa_cons (pv 1) pa_nil)) pe_int (nomark _)) (pe_one (pe_cmpR op_in_seq (pe_ix ix_list (pv 1) pe_int (fun _ _ => rfl)) (pe_op op_cat (pv 2) (pe_lst (pa_cons pe_str pa_nil))) (by rfl)))))) pss_nil)
      (pss_cons (ps_if (PW.pt (pw_or (pt_cmpR op_notIn_seq (pe_ix ix_list (pv 1) pe_int (fun _ _ => rfl)) (pv 2) (by rfl)) (pw_or1 (PW.pt (pw_and (pt_cmpR op_gt (pe_callB call_len_seq (by rfl) T.len PySem.boot_len (pa_cons (pv 1) pa_nil)) pe_int (nomark _)) (pw_and1 (pt_cmpR op_notIn_seq (pe_ix ix_list (pv 1) pe_int (fun _ _ => rfl)) (pe_lst (pa_cons pe_str (pa_cons pe_str pa_nil))) (by rfl)))))))) (pss_one (ps_ret pe_bl)) pss_nil)
      (pss_one (ps_ret (pe_or (pe_cmpR op_eq (pe_callB call_len_seq (by rfl) T.len PySem.boot_len (pa_cons (pv 1) pa_nil)) pe_int (nomark _)) (pe_one (pe_call GS hr rfl gS kS bS .nil pass0 (pa_cons (pe_slice sl_list (pv 1) (po_some pe_int) po_none) pa_nil)))))))))), ?_⟩
    refine rd_drop (K := K) (ws := w0 :: w1 :: t) (n := 2) rfl ha H _ (fun _ _ e => e) fun b nb => ?_
    have s1 := Same.new (o := .lst (t.map V.str)) nb
    refine ⟨rfl, fun R H2 s2 gR => ?_⟩
    refine ⟨_, _, rfl, ?_⟩
    have sB := s1.trans s2
    have ga := sB _ _ ha
    have gb : H2 b = some (.lst (t.map V.str)) := s2 _ _ upd_same
    dsimp only
    have hs : ∀ w ∈ t, PyData.strOk w = true := fun w h => (hw w h).str
    have fs : ∀ w ∈ [("size" : Str)], PyData.strOk w = true := by decide +kernel
    have lt : (t.map V.str).length = t.length := List.length_map ..
    have w0at : atI ((w0 :: w1 :: t).map V.str) 0 = some (.str w0) := atI_nat (j := 0) rfl
    refine ⟨_, rfl, a, _, _, _, rfl, rfl, SqL.of ga, w0at, (by show 3 ≤ sizeLine; decide), fun S nS => ?_⟩
    have s3 := Same.new (o := .lst [.str "a", .str "b", .str "c"]) nS
    have sC := sB.trans s3
    have gb3 := s3 _ _ gb
    have gR3 := s3 _ _ gR
    refine ⟨S, _, rfl, .inl (SqL.of upd_same), rfl, rfl, _, rfl, ?_⟩
    have e0 : inV (.str w0) [.str "a", .str "b", .str "c"] = decide (w0 ∈ regsL) := inV_str _ regsL
    by_cases c0 : w0 ∈ regsL
    · refine ifT3 (show inV (.str w0) [.str "a", .str "b", .str "c"] = true by rw [e0]; exact decide_eq_true c0) ?_
      have pb : setB w0 t = (if t.take 1 = [("size" : Str)] then decide (t.drop 1 ∈ (placesAll.map fun p => [p]) ++ (placesAll.map fun p => [("ahead" : Str), p])) else sumB t) := by unfold setB; rw [if_pos c0]
      refine rd_eq (us := t.take 1) (cs := ["size"]) (rd_take (n := 1) rfl gb3) (rd_one _ _ _) (fun w h => hs w (List.take_subset _ _ h)) fs fun H4 s4 => ?_
      have sD := sC.trans s4
      have gb4 := s4 _ _ gb3
      have gR4 := s4 _ _ gR3
      refine ⟨_, rfl, ?_⟩
      by_cases c1 : t.take 1 = [("size" : Str)]
      case neg =>
        refine ifF3 (decide_eq_false c1) ?_
        refine nxt ?_
        dsimp only
        refine ⟨_, rfl, b, t, rfl, gb4, hw, by omega, fun H5 s5 => ?_⟩
        have z := k _ (sD.trans s5)
        rw [pb, if_neg c1] at z
        exact z
      refine ifT3 (decide_eq_true c1) ?_
      refine rd_drop (K := K) (n := 1) rfl gb4 H4 _ (fun _ _ e => e) fun p np => ?_
      have s5 := Same.new (o := .lst ((t.drop 1).map V.str)) np
      refine ⟨_, rfl, R, rfl, ⟨_, SqL.of (s5 _ _ gR4)⟩, fun D1 nD1 => ?_⟩
      have sD1 := Same.new (o := .lst []) nD1
      refine lc_list (K := K) (a := R) (xs := placesAll.map V.str) (fun i G => ∃ xs, Same (upd H4 p (.lst ((t.drop 1).map V.str))) G ∧ G D1 = some (.lst xs) ∧ LsAt G xs (onesL (placesAll.take i)) ∧ ∀ v ∈ xs, v ≠ .ref D1) ⟨[], sD1, upd_same, .nil, fun v hv => nomatch hv⟩ (fun i G _ ⟨_, s, _⟩ => SqL.of (s _ _ (s5 _ _ gR4))) ?_ ?_
      · rintro i y G hi ⟨xs, s6, g6, l6, n6⟩
        obtain ⟨q, hq, rfl⟩ : ∃ q, placesAll[i]? = some q ∧ y = V.str q := by
          rw [List.getElem?_map] at hi
          cases e : placesAll[i]? with
          | none => rw [e] at hi; cases hi
          | some q => rw [e] at hi; exact ⟨q, rfl, (Option.some.inj hi).symm⟩
        have xl : xs.length ≤ 5 := by rw [l6.len]; unfold onesL; rw [List.length_map]; exact List.length_take_le' _ _
        refine ⟨rfl, ?_⟩
        refine ⟨_, rfl, (by show 1 ≤ sizeLine; decide), fun u nu => ?_⟩
        have s7 := Same.new (o := .lst [.str q]) nu
        have D1u : D1 ≠ u := ne_of_none g6 nu
        refine ⟨xs, s7 _ _ g6, small1000 (by omega), xs ++ [.ref u], Same.write (s6.trans s7) nD1, upd_same, ?_, ?_⟩
        · rw [show onesL (placesAll.take (i + 1)) = onesL (placesAll.take i) ++ [[q]] by unfold onesL; rw [take_more hq, List.map_append]; rfl]
          exact LsAt.app ((l6.keep s7).write n6) (.cons (by rw [upd_ne D1u.symm]; exact upd_same) .nil)
        · intro v hv
          rcases List.mem_append.mp hv with z | z
          · exact n6 v z
          · rw [List.mem_singleton.mp z]
            exact fun e => D1u (V.ref.inj e).symm
      rintro G1 ⟨xs1, s6, g6, l6, _⟩
      rw [show (placesAll.map V.str).length = 5 from rfl, show placesAll.take 5 = placesAll from rfl] at l6
      refine ⟨_, rfl, R, rfl, ⟨_, SqL.of (s6 _ _ (s5 _ _ gR4))⟩, fun D2 nD2 => ?_⟩
      have sD2 := Same.new (o := .lst []) nD2
      refine lc_list (K := K) (a := R) (xs := placesAll.map V.str) (fun i G => ∃ xs, Same (G1) G ∧ G D2 = some (.lst xs) ∧ LsAt G xs (aheadsL (placesAll.take i)) ∧ ∀ v ∈ xs, v ≠ .ref D2) ⟨[], sD2, upd_same, .nil, fun v hv => nomatch hv⟩ (fun i G _ ⟨_, s, _⟩ => SqL.of (s _ _ (s6 _ _ (s5 _ _ gR4)))) ?_ ?_
      · rintro i y G hi ⟨xs, s6, g6, l6, n6⟩
        obtain ⟨q, hq, rfl⟩ : ∃ q, placesAll[i]? = some q ∧ y = V.str q := by
          rw [List.getElem?_map] at hi
          cases e : placesAll[i]? with
          | none => rw [e] at hi; cases hi
          | some q => rw [e] at hi; exact ⟨q, rfl, (Option.some.inj hi).symm⟩
        have xl : xs.length ≤ 5 := by rw [l6.len]; unfold aheadsL; rw [List.length_map]; exact List.length_take_le' _ _
        refine ⟨rfl, ?_⟩
        refine ⟨_, rfl, (by show 2 ≤ sizeLine; decide), fun u nu => ?_⟩
        have s7 := Same.new (o := .lst [.str "ahead", .str q]) nu
        have D1u : D2 ≠ u := ne_of_none g6 nu
        refine ⟨xs, s7 _ _ g6, small1000 (by omega), xs ++ [.ref u], Same.write (s6.trans s7) nD2, upd_same, ?_, ?_⟩
        · rw [show aheadsL (placesAll.take (i + 1)) = aheadsL (placesAll.take i) ++ [[("ahead" : Str), q]] by unfold aheadsL; rw [take_more hq, List.map_append]; rfl]
          exact LsAt.app ((l6.keep s7).write n6) (.cons (by rw [upd_ne D1u.symm]; exact upd_same) .nil)
        · intro v hv
          rcases List.mem_append.mp hv with z | z
          · exact n6 v z
          · rw [List.mem_singleton.mp z]
            exact fun e => D1u (V.ref.inj e).symm
      rintro G2 ⟨xs2, s8, g8, l8, _⟩
      rw [show (placesAll.map V.str).length = 5 from rfl, show placesAll.take 5 = placesAll from rfl] at l8
      have g1 := s8 _ _ g6
      have l1 := l6.keep s8
      have x1 := l1.len
      have x2 := l8.len
      refine ⟨D1, D2, _, _, rfl, rfl, g1, g8, Nat.le_of_lt (small1000 (by rw [x1, x2]; decide)), fun u nu => ?_⟩
      have s9 := Same.new (o := .lst (xs1 ++ xs2)) nu
      have sF := sD.trans (s5.trans (s6.trans (s8.trans s9)))
      have la := (l1.app l8).keep s9
      refine ⟨.list ((t.drop 1).map .str), _, .lst (SqL.of ((s6.trans (s8.trans s9)) _ _ upd_same)) (dp_strs _ _ _), .lst (SqL.of upd_same) la.dp, shaped_strs (fun w h => hs w (List.drop_subset _ _ h)), sizes_shaped, ?_⟩
      rw [any_eqv]
      have z := k _ sF
      rw [pb, if_pos c1] at z
      exact z
    refine ifF3 (show inV (.str w0) [.str "a", .str "b", .str "c"] = false by rw [e0]; exact decide_eq_false c0) ?_
    refine nxt ?_
    dsimp only
    have ga3 := s3 _ _ ga
    refine ⟨_, rfl, a, _, _, _, rfl, rfl, SqL.of ga3, w0at, ?_⟩
    refine rd_drop (K := K) (ws := placesAll) (n := 1) rfl gR3 _ _ (fun _ _ e => e) fun p np => ?_
    have s4 := Same.new (o := .lst ((placesAll.drop 1).map V.str)) np
    have sD := sC.trans s4
    have gb4 := s4 _ _ gb3
    have gR4 := s4 _ _ gR3
    refine ⟨p, _, rfl, .inl (SqL.of upd_same), rfl, flat_str _, _, rfl, ?_⟩
    rw [inV_str]
    have pb : setB w0 t = (if w0 ∉ placesAll.drop 1 ∨ t = [] then false else if wd t 0 ∈ linksL then decide (t.length = 2) && decide (wd t 1 ∈ placesAll ++ [("bin" : Str)])
      else if wd t 0 ∉ placesAll ∨ (1 < t.length ∧ wd t 1 ∉ [("+" : Str), "-"]) then false else decide (t.length = 1) || sumB (t.drop 2)) := by unfold setB; rw [if_neg c0]
    by_cases c1 : w0 ∈ placesAll.drop 1
    case neg =>
      refine ifT3 (show (!decide (w0 ∈ placesAll.drop 1)) = true by rw [decide_eq_false c1]; rfl) ?_
      refine iteT ?_
      have z := k _ sD
      rw [pb, if_pos (.inl c1)] at z
      exact z
    refine ifF3 (show (!decide (w0 ∈ placesAll.drop 1)) = false by rw [decide_eq_true c1]; rfl) ?_
    refine ⟨_, rfl, (by show 0 ≤ sizeLine; decide), fun u nu => ?_⟩
    have s5 := Same.new (o := .lst []) nu
    have sE := sD.trans s5
    have gb5 := s5 _ _ gb4
    have gR5 := s5 _ _ gR4
    refine eq_ws (a := t) (b := []) gb5 upd_same hs (fun w h => nomatch h) ?_
    refine ⟨_, rfl, ?_⟩
    by_cases c2 : t = []
    · refine ifT3 (decide_eq_true c2) ?_
      have z := k _ sE
      rw [pb, if_pos (.inr c2)] at z
      exact z
    refine ifF3 (decide_eq_false c2) ?_
    refine nxt ?_
    dsimp only
    have pos : 0 < t.length := List.length_pos_iff.mpr c2
    rw [if_neg (show ¬ (w0 ∉ placesAll.drop 1 ∨ t = []) from fun z => z.elim (fun q => q c1) c2)] at pb
    refine ⟨_, rfl, b, _, _, _, rfl, rfl, SqL.of gb5, at_pos (i := 0) pos, (by show 2 ≤ sizeLine; decide), fun v nv => ?_⟩
    have s6 := Same.new (o := .lst [.str "next", .str "prev"]) nv
    have sF := sE.trans s6
    have gb6 := s6 _ _ gb5
    have gR6 := s6 _ _ gR5
    refine ⟨v, _, rfl, .inl (SqL.of upd_same), rfl, rfl, _, rfl, ?_⟩
    have e3 : inV (.str (t.getD 0 Str.empty)) [.str "next", .str "prev"] = decide (wd t 0 ∈ linksL) := inV_str _ linksL
    by_cases c3 : wd t 0 ∈ linksL
    · refine ifT3 (show inV (.str (t.getD 0 Str.empty)) [.str "next", .str "prev"] = true by rw [e3]; exact decide_eq_true c3) ?_
      rw [if_pos c3] at pb
      refine ⟨_, rfl, b, _, rfl, .inl (SqL.of gb6), rfl, _, rfl, ?_⟩
      rw [lt]
      by_cases c4 : t.length = 2
      case neg =>
        refine ifF3 (decide_eq_false fun z => c4 (by have := V.int.inj z; omega)) ?_
        have z := k _ sF
        rw [pb, decide_eq_false c4, Bool.false_and] at z
        exact z
      refine ifT3 (decide_eq_true (by rw [c4]; rfl)) ?_
      refine ⟨_, rfl, b, _, _, _, rfl, rfl, SqL.of gb6, at_pos (i := 1) (by omega), _, rfl, (by show 1 ≤ sizeLine; decide), fun q nq => ?_⟩
      have s7 := Same.new (o := .lst [.str "bin"]) nq
      refine ⟨R, q, _, _, rfl, rfl, s7 _ _ gR6, upd_same, (by show 5 + 1 ≤ sizeLine; decide), fun c nc => ?_⟩
      have s8 := Same.new (o := .lst (placesAll.map V.str ++ [.str "bin"])) nc
      refine ⟨c, _, rfl, .inl (SqL.of upd_same), rfl, rfl, ?_⟩
      have e4 : inV (.str (t.getD 1 Str.empty)) (placesAll.map V.str ++ [.str "bin"]) = decide (wd t 1 ∈ placesAll ++ [("bin" : Str)]) := inV_str _ (placesAll ++ [("bin" : Str)])
      have z := k _ (sF.trans (s7.trans s8))
      rw [pb, decide_eq_true c4, Bool.true_and, ← e4] at z
      exact z
    refine ifF3 (show inV (.str (t.getD 0 Str.empty)) [.str "next", .str "prev"] = false by rw [e3]; exact decide_eq_false c3) ?_
    refine nxt ?_
    dsimp only
    rw [if_neg c3] at pb
    refine ⟨_, rfl, b, _, _, _, rfl, rfl, SqL.of gb6, at_pos (i := 0) pos, _, rfl, R, _, rfl, .inl (SqL.of gR6), rfl, flat_str _, _, rfl, ?_⟩
    rw [inV_str]
    by_cases c5 : wd t 0 ∈ placesAll
    case neg =>
      refine ifT3 (show (!decide (wd t 0 ∈ placesAll)) = true by rw [decide_eq_false c5]; rfl) ?_
      refine iteT ?_
      have z := k _ sF
      rw [pb, if_pos (.inl c5)] at z
      exact z
    refine ifF3 (show (!decide (wd t 0 ∈ placesAll)) = false by rw [decide_eq_true c5]; rfl) ?_
    refine ⟨_, rfl, b, _, rfl, .inl (SqL.of gb6), _, _, rfl, rfl, _, rfl, ?_⟩
    rw [lt]
    -- the end: one word, or a sum behind the sign
    have fin : ∀ G, Same H G → G b = some (.lst (t.map V.str)) → setB w0 t = (decide (t.length = 1) || sumB (t.drop 2)) →
        tRet (tOrV (tOp rEq (tCB (fun xs H Q => ∃ (p : Addr) (ys : List V), xs = [V.ref p] ∧ ((SqL K H p ys ∨ SqT K H p ys) ∧ Q (.int (ys.length : Nat)) H)) (tCons (tVar 1) tNil)) (tC (.int 1))) (tCall spIsSum [] E0 (tCons (tSl (rSlL K) (tVar 1) (tPart (tC (.int 2))) tNoPart) tNil))) { nx := fun _ H' => Q .non H', rt := Q } [some (.ref a), some (.ref b), some (.ref R), none] G := by
      intro G sG gG pf
      refine ⟨_, rfl, b, _, rfl, .inl (SqL.of gG), rfl, _, rfl, ?_⟩
      rw [lt]
      by_cases o : t.length = 1
      · refine ifT3 (decide_eq_true (by rw [o]; rfl)) ?_
        have z := k _ sG
        rw [pf, decide_eq_true o, Bool.true_or] at z
        exact z
      · refine ifF3 (decide_eq_false fun z => o (by have := V.int.inj z; omega)) ?_
        refine rd_drop (K := K) (n := 2) rfl gG _ _ (fun _ _ e => e) fun q nq => ?_
        have sq := Same.new (o := .lst ((t.drop 2).map V.str)) nq
        refine ⟨q, t.drop 2, rfl, upd_same, fun w h => hw w (List.drop_subset _ _ h), by rw [List.length_drop]; omega, fun G8 s8 => ?_⟩
        have z := k _ (sG.trans (sq.trans s8))
        rw [pf, decide_eq_false o, Bool.false_or] at z
        exact z
    by_cases c6 : 1 < t.length
    case neg =>
      refine ifF3 (decide_eq_false (by omega)) ?_
      refine nxt ?_
      dsimp only
      refine fin _ sF gb6 ?_
      rw [pb, if_neg]
      rintro (z | z)
      · exact z c5
      · exact c6 z.1
    refine ifT3 (decide_eq_true (by omega)) ?_
    refine ⟨_, rfl, b, _, _, _, rfl, rfl, SqL.of gb6, at_pos (i := 1) c6, (by show 2 ≤ sizeLine; decide), fun q nq => ?_⟩
    have s7 := Same.new (o := .lst [.str "+", .str "-"]) nq
    refine ⟨q, _, rfl, .inl (SqL.of upd_same), rfl, rfl, _, rfl, ?_⟩
    have e7 : inV (.str (t.getD 1 Str.empty)) [.str "+", .str "-"] = decide (wd t 1 ∈ [("+" : Str), "-"]) := inV_str _ [("+" : Str), "-"]
    by_cases c7 : wd t 1 ∈ [("+" : Str), "-"]
    case neg =>
      refine ifT3 (show (!inV (.str (t.getD 1 Str.empty)) [.str "+", .str "-"]) = true by rw [e7, decide_eq_false c7]; rfl) ?_
      have z := k _ (sF.trans s7)
      rw [pb, if_pos (.inr ⟨c6, c7⟩)] at z
      exact z
    refine ifF3 (show (!inV (.str (t.getD 1 Str.empty)) [.str "+", .str "-"]) = false by rw [e7, decide_eq_true c7]; rfl) ?_
    refine nxt ?_
    dsimp only
    refine fin _ (sF.trans s7) (s7 _ _ gb6) ?_
    rw [pb, if_neg]
    rintro (z | z)
    · exact z c5
    · exact z.2 c7
end
end K14

set_option Elab.async false
set_option linter.all false
set_option maxRecDepth 100000
set_option maxHeartbeats 8000000
/-! k14: texts parted at " and " -/
namespace K14
open PySem L2
def wl (ws : List Str) : List Nat := TL.joinL [32] (ws.map TL.tl)
theorem joinL_app (S : List Nat) : ∀ {x y : List (List Nat)}, x ≠ [] → y ≠ [] → TL.joinL S (x ++ y) = TL.joinL S x ++ (S ++ TL.joinL S y)
  | [], _, h, _ => absurd rfl h
  | [p], [], _, h => absurd rfl h
  | [p], q :: r, _, _ => rfl
  | p :: q :: r, y, _, hy => by
    have ih := joinL_app S (x := q :: r) (y := y) (by simp) hy
    show p ++ (S ++ TL.joinL S ((q :: r) ++ y)) = (p ++ (S ++ TL.joinL S (q :: r))) ++ (S ++ TL.joinL S y)
    rw [ih]
    simp [List.append_assoc]
theorem wl_app {x y : List Str} (hx : x ≠ []) (hy : y ≠ []) : wl (x ++ y) = wl x ++ (32 :: wl y) := by
  unfold wl
  rw [List.map_append, joinL_app _ (by simpa using hx) (by simpa using hy)]
  rfl
def grp : List Str → List Str → List (List Str)
  | cur, [] => [cur]
  | cur, [y] => [cur ++ [y]]
  | cur, y :: z :: r => if y = "and" then cur :: grp [z] r else grp (cur ++ [y]) (z :: r)
abbrev andA : List Nat := [32, 97, 110, 100, 32]
def tailL : List Str → List Nat
  | [] => []
  | y :: r => 32 :: wl (y :: r)
theorem wl_cons (y : Str) (r : List Str) : wl (y :: r) = TL.tl y ++ tailL r := by
  cases r with
  | nil => show TL.tl y = TL.tl y ++ []; rw [List.append_nil]
  | cons z q => rfl
theorem pre_ne {c : Nat} (h : c ≠ 32) (r : List Nat) : TL.pre andA (c :: r) = false := by
  unfold TL.pre
  simp [h]
theorem run_word : ∀ (y : List Nat) (acc t : List Nat), 32 ∉ y → TL.spl andA 0 acc (y ++ t) = TL.spl andA 0 (acc ++ y) t
  | [], acc, t, _ => by rw [List.append_nil]; rfl
  | c :: y, acc, t, h => by
    have hc : c ≠ 32 := fun z => h (z ▸ List.mem_cons_self ..)
    rw [List.cons_append, TL.spl_miss (pre_ne hc _), run_word y _ t fun z => h (List.mem_cons_of_mem _ z)]
    rw [List.append_assoc]
    rfl
theorem pre_and {y : List Nat} (h : 32 ∉ y) (t : List Nat) (ht : t = [] ∨ ∃ q, t = 32 :: q) (hy : y = [97, 110, 100] → t = []) : TL.pre andA (32 :: (y ++ t)) = false := by
  cases e : TL.pre andA (32 :: (y ++ t)) with
  | false => rfl
  | true =>
    exfalso
    have e2 : List.take 4 (y ++ t) = [97, 110, 100, 32] := by
      unfold TL.pre at e
      simpa using e
    rcases ht with rfl | ⟨q, rfl⟩
    · rw [List.append_nil] at e2
      match y, h, e2 with
      | [], h, e2 => simp at e2
      | [a], h, e2 => simp at e2
      | [a, b], h, e2 => simp at e2
      | [a, b, c], h, e2 => simp at e2
      | a :: b :: c :: d :: r, h, e2 =>
        simp at e2
        exact h (by simp [e2])
    · match y, h, e2, hy with
      | [], h, e2, hy => simp at e2
      | [a], h, e2, hy => simp at e2
      | [a, b], h, e2, hy => simp at e2
      | [a, b, c], h, e2, hy =>
        simp at e2
        exact absurd (hy (by simp [e2])) (by simp)
      | a :: b :: c :: d :: r, h, e2, hy =>
        simp at e2
        exact h (by simp [e2])
theorem tl_and : ∀ {y : Str}, TL.tl y = [97, 110, 100] → y = "and" := fun {y} h => TL.ext_tl (h.trans (by decide +kernel))
theorem wl_snoc {cur : List Str} (hc : cur ≠ []) (y : Str) : wl (cur ++ [y]) = wl cur ++ ([32] ++ TL.tl y) := by
  rw [wl_app hc (by simp)]
  rfl
theorem spl_grp : ∀ (rest cur : List Str), cur ≠ [] → (∀ w ∈ rest, 32 ∉ TL.tl w) → TL.spl andA 0 (wl cur) (tailL rest) = (grp cur rest).map wl
  | [], cur, _, _ => by
    show TL.spl andA 0 (wl cur) [] = _
    rw [TL.spl_nil]
    rfl
  | [y], cur, hc, h => by
    have hy := h y (List.mem_singleton.mpr rfl)
    show TL.spl andA 0 (wl cur) (32 :: TL.tl y) = [wl (cur ++ [y])]
    have p : TL.pre andA (32 :: TL.tl y) = false := by
      have := pre_and hy [] (.inl rfl) (fun _ => rfl)
      rwa [List.append_nil] at this
    have r := run_word (TL.tl y) (wl cur ++ [32]) [] hy
    rw [List.append_nil] at r
    rw [TL.spl_miss p, r, TL.spl_nil, wl_snoc hc, List.append_assoc]
  | y :: z :: r, cur, hc, h => by
    have hy := h y (List.mem_cons_self ..)
    have hz := h z (List.mem_cons_of_mem _ (List.mem_cons_self ..))
    have e : tailL (y :: z :: r) = 32 :: (TL.tl y ++ tailL (z :: r)) := by
      show 32 :: wl (y :: z :: r) = _
      rw [wl_cons y]
    unfold grp
    by_cases ha : y = "and"
    · rw [if_pos ha, e, ha]
      have ta : TL.tl ("and" : Str) = [97, 110, 100] := by decide +kernel
      have p : TL.pre andA (32 :: (TL.tl ("and" : Str) ++ tailL (z :: r))) = true := by
        rw [ta]
        unfold TL.pre tailL
        simp
      rw [TL.spl_hit p, TL.spl_pass, ta]
      show wl cur :: TL.spl andA 0 [] (wl (z :: r)) = _
      rw [wl_cons z, run_word _ _ _ hz, List.nil_append]
      have ih := spl_grp r [z] (by simp) fun w hw => h w (List.mem_cons_of_mem _ (List.mem_cons_of_mem _ hw))
      have e1 : wl [z] = TL.tl z := rfl
      rw [e1] at ih
      rw [ih]
      rfl
    · rw [if_neg ha, e]
      have p : TL.pre andA (32 :: (TL.tl y ++ tailL (z :: r))) = false := pre_and hy _ (.inr ⟨_, rfl⟩) fun q => absurd (tl_and q) ha
      rw [TL.spl_miss p, run_word _ _ _ hy]
      have ih := spl_grp (z :: r) (cur ++ [y]) (by simp) fun w hw => h w (List.mem_cons_of_mem _ hw)
      rw [wl_snoc hc] at ih
      rw [← ih, List.append_assoc]
theorem grp_words : ∀ (rest cur : List Str) (ok : Str → Prop), (∀ w ∈ cur, ok w) → (∀ w ∈ rest, ok w) → cur ≠ [] → ∀ p ∈ grp cur rest, p ≠ [] ∧ (∀ w ∈ p, ok w) ∧ p.length ≤ cur.length + rest.length
  | [], cur, ok, hc, hr, ne, p, hp => by
    have := List.mem_singleton.mp hp
    subst this
    exact ⟨ne, hc, Nat.le_refl _⟩
  | [y], cur, ok, hc, hr, ne, p, hp => by
    have := List.mem_singleton.mp hp
    subst this
    exact ⟨by simp, fun w hw => (List.mem_append.mp hw).elim (hc w) (hr w), by simp⟩
  | y :: z :: r, cur, ok, hc, hr, ne, p, hp => by
    unfold grp at hp
    split at hp
    · rcases List.mem_cons.mp hp with e | hp
      · subst e
        exact ⟨ne, hc, by simp⟩
      · obtain ⟨a, b, c⟩ := grp_words r [z] ok (fun w hw => by rw [List.mem_singleton.mp hw]; exact hr z (by simp)) (fun w hw => hr w (by simp [hw])) (by simp) p hp
        refine ⟨a, b, Nat.le_trans c ?_⟩
        simp
        omega
    · obtain ⟨a, b, c⟩ := grp_words (z :: r) (cur ++ [y]) ok (fun w hw => (List.mem_append.mp hw).elim (hc w) fun q => by rw [List.mem_singleton.mp q]; exact hr y (by simp)) (fun w hw => hr w (List.mem_cons_of_mem _ hw)) (by simp) p hp
      refine ⟨a, b, Nat.le_trans c ?_⟩
      simp
      omega
theorem grp_len : ∀ (rest cur : List Str), (grp cur rest).length ≤ 1 + rest.length
  | [], _ => Nat.le_refl _
  | [_], _ => by show 1 ≤ _; omega
  | y :: z :: r, cur => by
    unfold grp
    split
    · have := grp_len r [z]
      rw [List.length_cons, List.length_cons, List.length_cons]
      omega
    · have := grp_len (z :: r) (cur ++ [y])
      rw [List.length_cons] at this ⊢
      rw [List.length_cons]
      omega
theorem grp_mem : ∀ (rest cur : List Str), ∃ p ∈ grp cur rest, ∀ w ∈ cur, w ∈ p
  | [], cur => ⟨cur, List.mem_singleton.mpr rfl, fun w h => h⟩
  | [y], cur => ⟨cur ++ [y], List.mem_singleton.mpr rfl, fun w h => List.mem_append_left _ h⟩
  | y :: z :: r, cur => by
    unfold grp
    split
    · exact ⟨cur, List.mem_cons_self .., fun w h => h⟩
    · obtain ⟨p, hp, h⟩ := grp_mem (z :: r) (cur ++ [y])
      exact ⟨p, hp, fun w hw => h w (List.mem_append_left _ hw)⟩
def pmGo : List Str → List Str → List (List Str)
  | cur, [] => [cur]
  | cur, y :: r => if y = "and" then cur :: pmGo [] r else pmGo (cur ++ [y]) r
theorem partM_go : ∀ (ws : List Str) (done : List (List Str)) (cur : List Str), (ws.foldl partStep (done, cur)).1 ++ [(ws.foldl partStep (done, cur)).2] = done ++ pmGo cur ws
  | [], done, cur => rfl
  | y :: r, done, cur => by
    rw [List.foldl_cons]
    unfold pmGo
    by_cases h : y = "and"
    · have e : partStep (done, cur) y = (done ++ [cur], []) := by unfold partStep; rw [if_pos h]
      rw [e, if_pos h, partM_go r, List.append_assoc]
      rfl
    · have e : partStep (done, cur) y = (done, cur ++ [y]) := by unfold partStep; rw [if_neg h]
      rw [e, if_neg h, partM_go r]
theorem partM_pm (ws : List Str) : partM ws = pmGo [] ws := by
  have h := partM_go ws [] []
  rw [List.nil_append] at h
  exact h
theorem pm_no : ∀ (r cur : List Str), ("and" : Str) ∉ cur → ∀ p ∈ pmGo cur r, ("and" : Str) ∉ p
  | [], cur, h, p, hp => by rw [List.mem_singleton.mp hp]; exact h
  | y :: r, cur, h, p, hp => by
    unfold pmGo at hp
    split at hp
    · rcases List.mem_cons.mp hp with e | hp
      · rw [e]; exact h
      · exact pm_no r [] (by simp) p hp
    · rename_i hy
      refine pm_no r (cur ++ [y]) (fun z => ?_) p hp
      rcases List.mem_append.mp z with z | z
      · exact h z
      · exact hy (List.mem_singleton.mp z).symm
def Clean (p : List Str) : Prop := p ≠ [] ∧ ("and" : Str) ∉ p
/-- where all parts are clean on one side, the sides are alike -/
theorem grp_pm : ∀ (rest cur : List Str), ((∀ p ∈ grp cur rest, Clean p) ∨ ∀ p ∈ pmGo cur rest, Clean p) → grp cur rest = pmGo cur rest
  | [], cur, _ => rfl
  | [y], cur, h => by
    show [cur ++ [y]] = if y = "and" then cur :: pmGo [] [] else pmGo (cur ++ [y]) []
    by_cases ha : y = "and"
    · exfalso
      rcases h with h | h
      · have := (h (cur ++ [y]) (List.mem_singleton.mpr rfl)).2
        exact this (by simp [ha])
      · have : pmGo cur [y] = cur :: pmGo [] [] := by
          show (if y = "and" then cur :: pmGo [] [] else pmGo (cur ++ [y]) []) = _
          rw [if_pos ha]
        rw [this] at h
        exact (h [] (by simp [pmGo])).1 rfl
    · rw [if_neg ha]
      rfl
  | y :: z :: r, cur, h => by
    unfold grp pmGo at h ⊢
    by_cases ha : y = "and"
    · rw [if_pos ha, if_pos ha] at *
      by_cases hz : z = "and"
      · exfalso
        rcases h with h | h
        · obtain ⟨p, hp, hm⟩ := grp_mem r [z]
          exact (h p (List.mem_cons_of_mem _ hp)).2 (hz ▸ hm z (List.mem_singleton.mpr rfl))
        · have e : pmGo [] (z :: r) = [] :: pmGo [] r := by rw [pmGo, if_pos hz]
          rw [e] at h
          exact (h [] (by simp)).1 rfl
      · have e : pmGo [] (z :: r) = pmGo [z] r := by rw [pmGo, if_neg hz]; rfl
        rw [e] at h ⊢
        rw [grp_pm r [z] (h.imp (fun h p hp => h p (List.mem_cons_of_mem _ hp)) fun h p hp => h p (List.mem_cons_of_mem _ hp))]
    · rw [if_neg ha, if_neg ha] at *
      exact grp_pm (z :: r) (cur ++ [y]) h
end K14

set_option Elab.async false
set_option linter.all false
set_option maxRecDepth 100000
set_option maxHeartbeats 8000000
/-! k14: tests, alike -/
namespace K14
open PySem L2
def goodP (p : List Str) : Bool := (partD (hPartM "take") p).isSome
theorem and_no : sumB [("and" : Str)] = false ∧ ("and" : Str) ∉ placesAll ∧ ("and" : Str) ∉ cmps ∧ ("and" : Str) ≠ "not" ∧ ("and" : Str) ≠ "used" ∧ ("and" : Str) ≠ "ahead" ∧ ("and" : Str) ≠ "is" ∧ ("and" : Str) ≠ "bin" := by decide +kernel
theorem part_clean0 {r : List Str} (h : partB r = true) : r ≠ [] ∧ ("and" : Str) ∉ r := by
  obtain ⟨a1, a2, a3, a4, a5, a6, a7, a8⟩ := and_no
  unfold partB at h
  split at h
  · obtain ⟨h1, h2⟩ := Bool.and_eq_true_iff.mp h
    have h1 := of_decide_eq_true h1
    have h2 := of_decide_eq_true h2
    have ne : r ≠ [] := fun z => by
      rw [z] at h1
      rcases h1 with q | q <;> cases q
    refine ⟨ne, fun z => ?_⟩
    have hp : 0 < r.length := List.length_pos_iff.mpr ne
    have e : r = r.take (r.length - 1) ++ [wd r (r.length - 1)] := by
      have g : r[r.length - 1]? = some (wd r (r.length - 1)) := by
        unfold wd
        rw [List.getD_eq_getElem?_getD, List.getElem?_eq_getElem (by omega)]
        rfl
      have t := take_more g
      rw [show r.length - 1 + 1 = r.length by omega, List.take_length] at t
      exact t
    rw [e] at z
    rcases List.mem_append.mp z with z | z
    · rcases h1 with q | q
      · rw [q] at z
        exact a5 (List.mem_singleton.mp z)
      · rw [q] at z
        rcases List.mem_cons.mp z with z | z
        · exact a6 z
        · exact a5 (List.mem_singleton.mp z)
    · rw [← List.mem_singleton.mp z] at h2
      exact a2 h2
  split at h
  · rename_i _ c
    have h := of_decide_eq_true h
    cases r with
    | nil => cases c
    | cons x t =>
      have c : t = [("is" : Str), "bin"] := c
      refine ⟨by simp, fun z => ?_⟩
      rw [c] at z
      rcases List.mem_cons.mp z with z | z
      · exact a2 (z ▸ h)
      rcases List.mem_cons.mp z with z | z
      · exact a7 z
      · exact a8 (List.mem_singleton.mp z)
  split at h
  · cases h
  · rename_i _ _ c
    have l3 : r.length = 3 := by
      by_cases q : r.length = 3
      · exact q
      · exact absurd (.inl q) c
    match r, l3, h, c with
    | [x, y, w], _, h, c =>
      obtain ⟨h1, h2⟩ := Bool.and_eq_true_iff.mp h
      have h1 : sumB [x] = true := h1
      have h2 : sumB [w] = true := h2
      refine ⟨by simp, fun z => ?_⟩
      rcases List.mem_cons.mp z with z | z
      · rw [← z, a1] at h1; cases h1
      rcases List.mem_cons.mp z with z | z
      · refine c (.inr (.inr fun q => a3 ?_))
        rw [z]
        exact q
      · rw [← List.mem_singleton.mp z, a1] at h2; cases h2
theorem part_clean {l : List Str} (hw : ∀ w ∈ l, Wo w) (h : goodP l = true) : Clean l := by
  unfold goodP at h
  rw [partD_some "take" hw] at h
  have core := part_clean0 h
  unfold nots at core
  split at core
  · rename_i ht
    cases l with
    | nil => cases ht
    | cons x r =>
      have ex : x = "not" := (List.cons.inj ht).1
      refine ⟨by simp, fun z => ?_⟩
      rcases List.mem_cons.mp z with e | z
      · exact and_no.2.2.2.1 (e.trans ex)
      · exact core.2 z
  · exact core
theorem parts_some (pm : List Str → Option PyData) : ∀ (ps : List (List Str)) (acc : List PyData), (partsGo pm ps acc).isSome = ps.all fun p => (partD pm p).isSome
  | [], _ => rfl
  | p :: r, acc => by
    unfold partsGo
    rw [List.all_cons]
    cases e : partD pm p with
    | none => rfl
    | some d => exact parts_some pm r _
theorem kind_and (x : Str) : ¬ PySem.Builtin.Str.strKind x < PySem.Builtin.Str.strKind " and " := by
  have e : PySem.Builtin.Str.strKind " and " = 1 := by decide +kernel
  rw [e]
  unfold PySem.Builtin.Str.strKind
  split <;> (try split) <;> omega
theorem split_words {p : Str} {g : List Str} (h : TL.tl p = wl g) (hg : g ≠ []) (hw : ∀ w ∈ g, Wo w) : Txt.split p " " = g := by
  have e : p = Txt.join " " g := by
    refine TL.ext_tl ?_
    rw [TL.join_eq, TL.tl_join, h]
    rfl
  rw [e]
  exact TL.split_join (y := " ") (s := 32) (S := []) rfl (by decide +kernel) hg fun q hq => (hw q hq).sp
/-- the parts of a test as the law has them -/
def tailP (ws : List Str) : List Str := Txt.split (Txt.join " " (ws.drop 1)) " and "
def ifB (ws : List Str) : Bool := decide ((tailP ws).length < 5) && decide ((tailP ws).filter (fun p => !goodP (Txt.split p " ")) = [])
theorem tail_tl {ws : List Str} {w0 : Str} {rest : List Str} (h : ws.drop 1 = w0 :: rest) (hw : ∀ w ∈ ws, Wo w) : (tailP ws).map TL.tl = (grp [w0] rest).map wl := by
  have hd : ∀ w ∈ w0 :: rest, Wo w := fun w q => hw w (List.mem_of_mem_drop (h ▸ q))
  unfold tailP
  rw [h, TL.split_spl _ _ (by decide +kernel) (kind_and _), TL.join_eq, TL.tl_join]
  have ta : TL.tl (" and " : Str) = andA := by decide +kernel
  have e : TL.joinL (TL.tl (" " : Str)) ((w0 :: rest).map TL.tl) = TL.tl w0 ++ tailL rest := wl_cons w0 rest
  rw [ta, e, run_word _ _ _ (hd w0 (by simp)).sp, List.nil_append]
  exact spl_grp rest [w0] (by simp) fun w q => (hd w (List.mem_cons_of_mem _ q)).sp
theorem map_split : ∀ {ps : List Str} {gs : List (List Str)}, ps.map TL.tl = gs.map wl → (∀ g ∈ gs, g ≠ [] ∧ ∀ w ∈ g, Wo w) → ps.map (fun p => Txt.split p " ") = gs ∧ ∀ p ∈ ps, ∃ g ∈ gs, TL.tl p = wl g
  | [], [], _, _ => ⟨rfl, fun p h => by cases h⟩
  | [], _ :: _, h, _ => by cases h
  | _ :: _, [], h, _ => by cases h
  | p :: ps, g :: gs, h, hg => by
    obtain ⟨h1, h2⟩ := List.cons.inj (show TL.tl p :: ps.map TL.tl = wl g :: gs.map wl from h)
    obtain ⟨a, b⟩ := hg g (by simp)
    obtain ⟨i1, i2⟩ := map_split h2 fun q hq => hg q (List.mem_cons_of_mem _ hq)
    refine ⟨?_, fun q hq => ?_⟩
    · rw [List.map_cons, i1, split_words h1 a b]
    · rcases List.mem_cons.mp hq with e | hq
      · rw [e]; exact ⟨g, by simp, h1⟩
      · obtain ⟨g2, m, e⟩ := i2 q hq
        exact ⟨g2, List.mem_cons_of_mem _ m, e⟩
theorem filter_all {α : Type} (f : α → Bool) : ∀ l : List α, decide (l.filter (fun x => !f x) = []) = l.all f
  | [] => rfl
  | x :: l => by
    have ih := filter_all f l
    rw [List.filter_cons, List.all_cons, ← ih]
    cases f x with
    | true => rfl
    | false => exact decide_eq_false (by simp)
theorem grp_good {w0 : Str} {rest : List Str} (hd : ∀ w ∈ w0 :: rest, Wo w) : ∀ g ∈ grp [w0] rest, g ≠ [] ∧ (∀ w ∈ g, Wo w) ∧ g.length ≤ 1 + rest.length := fun g q =>
  grp_words rest [w0] Wo (fun w z => by rw [List.mem_singleton.mp z]; exact hd w0 (by simp)) (fun w z => hd w (List.mem_cons_of_mem _ z)) (by simp) g q
theorem if_eq {ws : List Str} {w0 : Str} {rest : List Str} (h : ws.drop 1 = w0 :: rest) (hw : ∀ w ∈ ws, Wo w) : (testM (hPartM "take") (ws.drop 1)).isSome = ifB ws := by
  have hd : ∀ w ∈ w0 :: rest, Wo w := fun w q => hw w (List.mem_of_mem_drop (h ▸ q))
  have hg := grp_good hd
  obtain ⟨e1, _⟩ := map_split (tail_tl h hw) fun g q => ⟨(hg g q).1, (hg g q).2.1⟩
  unfold ifB
  rw [filter_all (fun p => goodP (Txt.split p " ")), ← List.length_map (as := tailP ws) (f := fun p => Txt.split p " "), show (tailP ws).all (fun p => goodP (Txt.split p " ")) = ((tailP ws).map fun p => Txt.split p " ").all goodP from by rw [List.all_map]; rfl, e1, h]
  unfold testM
  rw [partM_pm]
  have pmw : ∀ (r cur : List Str), (∀ w ∈ cur, Wo w) → (∀ w ∈ r, Wo w) → ∀ p ∈ pmGo cur r, ∀ w ∈ p, Wo w := by
    intro r
    induction r with
    | nil =>
      intro cur hc _ p hp
      rw [List.mem_singleton.mp hp]
      exact hc
    | cons y r ih =>
      intro cur hc hr p hp
      unfold pmGo at hp
      split at hp
      · rcases List.mem_cons.mp hp with e | hp
        · rw [e]; exact hc
        · exact ih [] (by simp) (fun w z => hr w (List.mem_cons_of_mem _ z)) p hp
      · refine ih (cur ++ [y]) (fun w z => ?_) (fun w z => hr w (List.mem_cons_of_mem _ z)) p hp
        rcases List.mem_append.mp z with z | z
        · exact hc w z
        · rw [List.mem_singleton.mp z]; exact hr y (by simp)
  have hpm := pmw (w0 :: rest) [] (fun w z => nomatch z) hd
  have key : (decide ((grp [w0] rest).length < 5) && (grp [w0] rest).all goodP) = (decide ((pmGo [] (w0 :: rest)).length < 5) && (pmGo [] (w0 :: rest)).all goodP) := by
    have same : ((∀ p ∈ grp [w0] rest, Clean p) ∨ ∀ p ∈ pmGo [] (w0 :: rest), Clean p) → grp [w0] rest = pmGo [] (w0 :: rest) := by
      intro hcl
      by_cases hz : w0 = "and"
      · exfalso
        rcases hcl with hcl | hcl
        · obtain ⟨p, hp, hm⟩ := grp_mem rest [w0]
          exact (hcl p hp).2 (hz ▸ hm w0 (List.mem_singleton.mpr rfl))
        · have e : pmGo [] (w0 :: rest) = [] :: pmGo [] rest := by rw [pmGo, if_pos hz]
          rw [e] at hcl
          exact (hcl [] (by simp)).1 rfl
      · have e : pmGo [] (w0 :: rest) = pmGo [w0] rest := by rw [pmGo, if_neg hz]; rfl
        rw [e] at hcl ⊢
        exact grp_pm rest [w0] hcl
    by_cases a : (grp [w0] rest).all goodP = true
    · rw [same (.inl fun p hp => part_clean (hg p hp).2.1 (List.all_eq_true.mp a p hp))]
    · by_cases b : (pmGo [] (w0 :: rest)).all goodP = true
      · rw [same (.inr fun p hp => part_clean (hpm p hp) (List.all_eq_true.mp b p hp))]
      · rw [Bool.eq_false_iff.mpr a, Bool.eq_false_iff.mpr b, Bool.and_false, Bool.and_false]
  rw [key]
  by_cases hl : 4 < (pmGo [] (w0 :: rest)).length
  · rw [if_pos hl, decide_eq_false (by omega : ¬ (pmGo [] (w0 :: rest)).length < 5)]
    rfl
  · rw [if_neg hl, decide_eq_true (by omega : (pmGo [] (w0 :: rest)).length < 5), Option.isSome_map, parts_some, Bool.true_and]
    rfl
end K14

set_option Elab.async false
set_option linter.all false
set_option maxRecDepth 100000
set_option maxHeartbeats 8000000
/-! k14: lines, alike -/
namespace K14
open PySem L2
/-- a line as it may stand: its signs, its length -/
structure Ln (x : Str) : Prop where
  ok : ∀ c ∈ TL.tl x, okS c
  len : x.length ≤ 600
theorem sp_is : (" " : Str) = ⟨#[32]⟩ := by decide +kernel
theorem joinL_len (s : Nat) : ∀ ps : List (List Nat), ps.length ≤ (TL.joinL [s] ps).length + 1
  | [] => Nat.zero_le _
  | [p] => by show 1 ≤ _; omega
  | p :: q :: r => by
    have ih := joinL_len s (q :: r)
    show (q :: r).length + 1 ≤ (p ++ ([s] ++ TL.joinL [s] (q :: r))).length + 1
    rw [List.length_append, List.length_append]
    simp only [List.length_cons] at ih ⊢
    simp only [List.length_nil]
    omega
theorem joinL_sub {S : List Nat} {c : Nat} : ∀ {ps : List (List Nat)} {p : List Nat}, p ∈ ps → c ∈ p → c ∈ TL.joinL S ps
  | [], _, h, _ => nomatch h
  | [q], p, h, hc => by rw [← List.mem_singleton.mp h]; exact hc
  | q :: r :: t, p, h, hc => by
    show c ∈ q ++ (S ++ TL.joinL S (r :: t))
    rcases List.mem_cons.mp h with e | h
    · rw [← e]; exact List.mem_append_left _ hc
    · exact List.mem_append_right _ (List.mem_append_right _ (joinL_sub h hc))
theorem joinL_long {S : List Nat} : ∀ {ps : List (List Nat)} {p : List Nat}, p ∈ ps → p.length ≤ (TL.joinL S ps).length
  | [], _, h => nomatch h
  | [q], p, h => by rw [← List.mem_singleton.mp h]; exact Nat.le_refl _
  | q :: r :: t, p, h => by
    show p.length ≤ (q ++ (S ++ TL.joinL S (r :: t))).length
    rw [List.length_append, List.length_append]
    rcases List.mem_cons.mp h with e | h
    · rw [← e]; omega
    · have := joinL_long (S := S) h
      omega
theorem split_tl (x : Str) : TL.tl x = wl (Txt.split x " ") := by
  have h := StrLaws.join_split x " "
  have h2 := congrArg TL.tl h
  rw [TL.tl_join] at h2
  exact h2.symm
theorem split_ne (x : Str) : Txt.split x " " ≠ [] := fun z => by
  have h := split_tl x
  rw [z] at h
  have e : x = "" := TL.ext_tl (h.trans (by decide +kernel))
  rw [e] at z
  exact absurd z (by decide +kernel)
theorem Ln.words {x : Str} (h : Ln x) : (∀ w ∈ Txt.split x " ", Wo w) ∧ (Txt.split x " ").length ≤ 601 := by
  have e := split_tl x
  have l := h.len
  constructor
  · intro w hw
    have m : TL.tl w ∈ (Txt.split x " ").map TL.tl := List.mem_map.mpr ⟨w, hw, rfl⟩
    refine ⟨fun c hc => h.ok c ?_, ?_, ?_⟩
    · rw [e]
      exact joinL_sub m hc
    · have z := StrLaws.split_free x 32 w (by rw [← sp_is]; exact hw)
      exact z
    · have z := joinL_long (S := [32]) m
      have z2 : (TL.tl x).length = (wl (Txt.split x " ")).length := by rw [e]
      have z3 : (TL.tl w).length ≤ (TL.tl x).length := by rw [z2]; exact z
      exact Nat.le_trans z3 l
  · have z := joinL_len 32 ((Txt.split x " ").map TL.tl)
    rw [List.length_map] at z
    have z2 : (TL.tl x).length = (wl (Txt.split x " ")).length := by rw [e]
    have z3 : (TL.tl x).length = x.length := rfl
    have z4 : (wl (Txt.split x " ")).length = (TL.joinL [32] ((Txt.split x " ").map TL.tl)).length := rfl
    omega
theorem Ln.wsok {x : Str} (h : Ln x) : WsOk (Txt.split x " ") := fun w hw => (h.words.1 w hw).wok
theorem Ln.row {x : Str} (h : Ln x) : RowOk x := by
  have l := h.len
  exact ⟨Nat.le_of_lt (small1000 (by omega)), h.wsok, split_ne x, Nat.le_trans h.words.2 (by decide)⟩
theorem split_one {x w : Str} (hw : Txt.split w " " = [w]) : Txt.split x " " = [w] ↔ x = w := by
  constructor
  · intro z
    refine TL.ext_tl ?_
    rw [split_tl x, z]
    rfl
  · intro z
    rw [z, hw]
theorem ones : Txt.split "quit" " " = [("quit" : Str)] ∧ Txt.split "no" " " = [("no" : Str)] ∧ Txt.split "else" " " = [("else" : Str)] ∧ Txt.split "end" " " = [("end" : Str)] ∧ Txt.split "if" " " = [("if" : Str)] := by decide +kernel
def flagsL : List Str := ["used", "free"]
/-- a line, by itself, as the law reads it -/
def lineB (x : Str) : Bool :=
  let ws := Txt.split x " "
  if wd ws 0 = "if" then ifB ws
  else if x = "no" ∨ x = "quit" then true
  else if (ws.drop 1).take 1 = [("=" : Str)] then setB (wd ws 0) (ws.drop 2)
  else if wd ws 0 ∈ flagsL ∨ (wd ws 0 = "ahead" ∧ (ws.drop 1).take 1 ∈ [[("used" : Str)], [("free" : Str)]]) then decide (ws.length = if wd ws 0 ∈ flagsL then 2 else 3) && decide (wd ws (ws.length - 1) ∈ placesAll)
  else if (ws.drop 2).take 1 ≠ [("=" : Str)] then false
  else if wd ws 0 ∈ linksL then decide (wd ws 1 ∈ placesAll ++ [("bin" : Str)]) && (decide (ws.length = 4) && decide (wd ws 3 ∈ placesAll ++ [("bin" : Str)]))
  else if wd ws 0 = "head" then (decide (5 < ws.length) && (decide (wd ws (ws.length - 1) ∈ flagsL) && decide (wd ws (ws.length - 2) ∈ flagsL))) && (decide (wd ws 1 ∈ placesAll) && sumB ((ws.drop 3).take (ws.length - 5)))
  else decide (wd ws 0 ∈ [("size" : Str), "foot"]) && (decide (wd ws 1 ∈ placesAll) && sumB (ws.drop 3))
theorem flag_some (w : Str) : (flagM w).isSome = decide (w ∈ flagsL) := by
  unfold flagM
  by_cases c : w = "used"
  · rw [if_pos c, c]; rfl
  rw [if_neg c]
  by_cases d : w = "free"
  · rw [if_pos d, d]; decide +kernel
  rw [if_neg d]
  exact (decide_eq_false (fun z => by
    rcases List.mem_cons.mp z with z | z
    · exact c z
    · exact d (List.mem_singleton.mp z))).symm
theorem some_step {kd : Str} {ws : List Str} : (stepS kd ws).isSome = (stepM kd ws).isSome := by
  unfold stepS
  cases e : stepM kd ws with
  | none => rfl
  | some d =>
    rcases stepM_actM e with rfl | rfl | ⟨so, n, ds, rfl, hn⟩ <;> rfl
theorem eq_sign {ws : List Str} {n : Nat} {c : Str} (hc : Str.empty ≠ c) : (ws.drop n).take 1 = [c] ↔ wd ws n = c := by
  unfold wd
  rw [List.getD_eq_getElem?_getD]
  cases e : ws.drop n with
  | nil =>
    have l : ws.length ≤ n := by
      have := congrArg List.length e
      rw [List.length_drop] at this
      simp at this
      omega
    rw [List.getElem?_eq_none l]
    exact ⟨fun z => (by cases z), fun z => absurd z hc⟩
  | cons a r =>
    have g : ws[n]? = some a := by
      rw [← List.head?_drop, e]
      rfl
    rw [g]
    exact ⟨fun z => (List.cons.inj z).1, fun z => (by rw [show a = c from z]; rfl)⟩
theorem seps : Str.empty ≠ ("=" : Str) ∧ Str.empty ≠ ("used" : Str) ∧ Str.empty ≠ ("free" : Str) ∧ ("=" : Str) ≠ Str.empty := by decide +kernel
theorem heads : (∀ x ∈ flagsL, x ∉ [("head" : Str), "size", "foot"] ∧ x ≠ "ahead" ∧ x ∉ linksL ∧ x ∈ [("used" : Str), "free", "ahead"]) ∧ ("ahead" : Str) ∉ flagsL ∧ ("ahead" : Str) ∉ [("head" : Str), "size", "foot"] ∧ ("ahead" : Str) ∉ linksL ∧ ("ahead" : Str) ≠ "head" ∧ ("ahead" : Str) ∉ [("size" : Str), "foot"] ∧
    (∀ x ∈ linksL, x ∉ [("head" : Str), "size", "foot"] ∧ x ∉ [("used" : Str), "free", "ahead"]) ∧ ("head" : Str) ∉ [("used" : Str), "free", "ahead"] ∧ ("head" : Str) ∉ linksL ∧ (∀ x ∈ [("size" : Str), "foot"], x ≠ "head" ∧ x ∉ [("used" : Str), "free", "ahead"] ∧ x ∉ linksL) := by decide +kernel
theorem flag_rest {rest : List Str} : (if rest.length = 2 ∧ wd rest 1 ∈ knownL then (flagM (wd rest 0)).map fun u => PyData.tuple [.str "flag", .str (wd rest 1), .str "used", .bool u] else none).isSome = (decide (rest.length = 2 ∧ wd rest 1 ∈ placesAll) && decide (wd rest 0 ∈ flagsL)) := by
  by_cases c : rest.length = 2 ∧ wd rest 1 ∈ knownL
  · rw [if_pos c, Option.isSome_map, flag_some]
    rw [show decide (rest.length = 2 ∧ wd rest 1 ∈ placesAll) = true from decide_eq_true c, Bool.true_and]
  · rw [if_neg c, show decide (rest.length = 2 ∧ wd rest 1 ∈ placesAll) = false from decide_eq_false c]
    rfl
theorem flag_step {ws : List Str} : (flagStepM ws).isSome = if wd ws 0 = "ahead" then decide (ws.length = 3 ∧ wd ws 2 ∈ placesAll) && decide (wd ws 1 ∈ flagsL) else decide (ws.length = 2 ∧ wd ws 1 ∈ placesAll) && decide (wd ws 0 ∈ flagsL) := by
  unfold flagStepM
  by_cases c : wd ws 0 = "ahead"
  · rw [if_pos c, if_pos c, if_pos c]
    dsimp only
    have d0 : wd (ws.drop 1) 0 = wd ws 1 := by cases ws <;> rfl
    have d1 : wd (ws.drop 1) 1 = wd ws 2 := by cases ws <;> rfl
    have hl : (ws.drop 1).length = 2 ↔ ws.length = 3 := by rw [List.length_drop]; omega
    by_cases e : ws.length = 3 ∧ wd ws 2 ∈ knownL
    · rw [if_pos ⟨hl.mpr e.1, by rw [d1]; exact e.2⟩, Option.isSome_map, flag_some, d0]
      rw [show decide (ws.length = 3 ∧ wd ws 2 ∈ placesAll) = true from decide_eq_true e, Bool.true_and]
    · rw [if_neg (fun z => e ⟨hl.mp z.1, by rw [← d1]; exact z.2⟩), show decide (ws.length = 3 ∧ wd ws 2 ∈ placesAll) = false from decide_eq_false e]
      rfl
  · rw [if_neg c, if_neg c, if_neg c]
    dsimp only
    by_cases e : ws.length = 2 ∧ wd ws 1 ∈ knownL
    · rw [if_pos e, Option.isSome_map, flag_some]
      rw [show decide (ws.length = 2 ∧ wd ws 1 ∈ placesAll) = true from decide_eq_true e, Bool.true_and]
    · rw [if_neg e, show decide (ws.length = 2 ∧ wd ws 1 ∈ placesAll) = false from decide_eq_false e]
      rfl
theorem head_some (w1 : Str) (a : Option Acc) (u v : Option Bool) : (headM w1 a u v).isSome = (a.isSome && (u.isSome && v.isSome)) := by
  cases a <;> cases u <;> cases v <;> rfl
theorem sized_some {ws : List Str} (h : ∀ w ∈ ws, Wo w) : (sizedM ws).isSome = if ws.length < 4 ∨ wd ws 1 ∉ placesAll ∨ wd ws 2 ≠ "=" then false else if wd ws 0 = "head" then sumB ((ws.drop 3).take (ws.length - 5)) && (decide (wd ws (ws.length - 2) ∈ flagsL) && decide (wd ws (ws.length - 1) ∈ flagsL)) else sumB (ws.drop 3) := by
  unfold sizedM
  by_cases c : ws.length < 4 ∨ ¬ wd ws 1 ∈ knownL ∨ ¬ wd ws 2 = "="
  · rw [if_pos c, if_pos (show ws.length < 4 ∨ wd ws 1 ∉ placesAll ∨ wd ws 2 ≠ "=" from c)]
    rfl
  rw [if_neg c, if_neg (show ¬ (ws.length < 4 ∨ wd ws 1 ∉ placesAll ∨ wd ws 2 ≠ "=") from c)]
  by_cases d : wd ws 0 = "head"
  · rw [if_pos d, if_pos d, head_some, flag_some, flag_some, sum_some fun w hw => h w (List.drop_subset _ _ (List.take_subset _ _ hw))]
  · rw [if_neg d, if_neg d, Option.isSome_map, sum_some fun w hw => h w (List.drop_subset _ _ hw)]
theorem wd_len {ws : List Str} {i : Nat} {c : Str} (hc : Str.empty ≠ c) (h : wd ws i = c) : i < ws.length := by
  by_cases l : i < ws.length
  · exact l
  · unfold wd at h
    rw [List.getD_eq_getElem?_getD, List.getElem?_eq_none (by omega)] at h
    exact absurd h hc
theorem if_only : (testM (hPartM "take") []).isSome = false ∧ ifB [("if" : Str)] = false := by decide +kernel
theorem line_eq {x : Str} (h : Ln x) (nest : List Str) (h1 : x ≠ "end") (h2 : x ≠ "else") : (readS "take" (Txt.split x " ") nest).isSome = lineB x := by
  obtain ⟨hw, _⟩ := h.words
  have ne := split_ne x
  obtain ⟨o1, o2, o3, o4, o5⟩ := ones
  obtain ⟨ws, ews⟩ : ∃ ws, ws = Txt.split x " " := ⟨_, rfl⟩
  have lb : lineB x = _ := rfl
  unfold lineB at lb ⊢
  rw [← ews] at hw ne ⊢
  dsimp only
  unfold readS
  by_cases c0 : wd ws 0 = "if"
  · rw [if_pos (show ws.getD 0 Str.empty = "if" from c0), if_pos c0, Option.isSome_map]
    cases e : ws.drop 1 with
    | cons w0 rest =>
      rw [← e]
      exact if_eq e hw
    | nil =>
      have e2 : ws = [("if" : Str)] := by
        cases ws with
        | nil => exact absurd rfl ne
        | cons a r =>
          have e : r = [] := e
          rw [e, show a = "if" from c0]
      rw [e2, if_only.2]
      exact if_only.1
  rw [if_neg (show ¬ ws.getD 0 Str.empty = "if" from c0), if_neg c0]
  rw [if_neg (show ¬ ws = [("else" : Str)] from fun z => h2 ((split_one o3).mp (by rw [← ews]; exact z))), if_neg (show ¬ ws = [("end" : Str)] from fun z => h1 ((split_one o4).mp (by rw [← ews]; exact z))), Option.isSome_map, some_step]
  unfold stepM
  have q : (ws = [("quit" : Str)] ∨ ws = [("no" : Str)]) ↔ (x = "no" ∨ x = "quit") := by
    rw [ews, split_one o1, split_one o2]
    exact Or.comm
  by_cases c1 : x = "no" ∨ x = "quit"
  · rw [if_pos (q.mpr c1), if_pos c1]
    rfl
  rw [if_neg (fun z => c1 (q.mp z)), if_neg c1]
  have eqs : ∀ n, (ws.drop n).take 1 = [("=" : Str)] ↔ wd ws n = "=" := fun n => eq_sign seps.1
  by_cases c2 : wd ws 1 = "="
  · have l2 := wd_len seps.1 c2
    rw [if_pos ⟨by omega, c2⟩, if_pos ((eqs 1).mpr c2)]
    match ws, hw, l2 with
    | w0 :: w1 :: t, hw, _ => exact set_some fun w hm => hw w (List.mem_cons_of_mem _ (List.mem_cons_of_mem _ hm))
  rw [if_neg (fun z => c2 z.2), if_neg (fun z => c2 ((eqs 1).mp z))]
  obtain ⟨t1, t2, t3, t4, t5, t6, t7, t8, t9, t10⟩ := heads
  by_cases f : wd ws 0 ∈ flagsL
  · obtain ⟨a1, a2, a3, a4⟩ := t1 _ f
    rw [if_neg a1, if_pos a4, flag_step, if_neg a2, if_pos (show wd ws 0 ∈ flagsL ∨ _ from .inl f), if_pos f, decide_eq_true f, Bool.and_true]
    by_cases l : ws.length = 2
    · rw [decide_eq_true l, Bool.true_and, l]
      exact decide_eq_decide.mpr ⟨fun z => z.2, fun z => ⟨rfl, z⟩⟩
    · rw [decide_eq_false l, Bool.false_and]
      exact decide_eq_false fun z => l z.1
  by_cases a : wd ws 0 = "ahead"
  · rw [if_neg (by rw [a]; exact t3), if_pos (by rw [a]; decide +kernel), flag_step, if_pos a]
    have fl : (ws.drop 1).take 1 ∈ [[("used" : Str)], [("free" : Str)]] ↔ wd ws 1 ∈ flagsL := by
      constructor
      · intro z
        rcases List.mem_cons.mp z with z | z
        · rw [(eq_sign seps.2.1).mp z]; decide +kernel
        · rw [(eq_sign seps.2.2.1).mp (List.mem_singleton.mp z)]; decide +kernel
      · intro z
        rcases List.mem_cons.mp z with z | z
        · rw [(eq_sign seps.2.1).mpr z]; exact List.mem_cons_self ..
        · rw [(eq_sign seps.2.2.1).mpr (List.mem_singleton.mp z)]; exact List.mem_cons_of_mem _ (List.mem_singleton.mpr rfl)
    by_cases g : wd ws 1 ∈ flagsL
    · rw [if_pos (show wd ws 0 ∈ flagsL ∨ (wd ws 0 = "ahead" ∧ (ws.drop 1).take 1 ∈ [[("used" : Str)], [("free" : Str)]]) from .inr ⟨a, fl.mpr g⟩), if_neg f, decide_eq_true g, Bool.and_true]
      by_cases l : ws.length = 3
      · rw [decide_eq_true l, Bool.true_and, l]
        exact decide_eq_decide.mpr ⟨fun z => z.2, fun z => ⟨rfl, z⟩⟩
      · rw [decide_eq_false l, Bool.false_and]
        exact decide_eq_false fun z => l z.1
    · rw [if_neg (show ¬ (wd ws 0 ∈ flagsL ∨ (wd ws 0 = "ahead" ∧ (ws.drop 1).take 1 ∈ [[("used" : Str)], [("free" : Str)]])) from fun z => z.elim f fun z => g (fl.mp z.2)), decide_eq_false g, Bool.and_false]
      by_cases e : (ws.drop 2).take 1 ≠ [("=" : Str)]
      · rw [if_pos e]
      · rw [if_neg e, if_neg (by rw [a]; exact t4), if_neg (by rw [a]; exact t5), decide_eq_false (by rw [a]; exact t6)]
        rfl
  rw [if_neg (show ¬ (wd ws 0 ∈ flagsL ∨ (wd ws 0 = "ahead" ∧ (ws.drop 1).take 1 ∈ [[("used" : Str)], [("free" : Str)]])) from fun z => z.elim f fun z => a z.1)]
  have nfl : wd ws 0 ∉ [("used" : Str), "free", "ahead"] := fun z => by
    rcases List.mem_cons.mp z with z | z
    · exact f (z ▸ List.mem_cons_self ..)
    rcases List.mem_cons.mp z with z | z
    · exact f (z ▸ List.mem_cons_of_mem _ (List.mem_singleton.mpr rfl))
    · exact a (List.mem_singleton.mp z)
  by_cases e2 : wd ws 2 = "="
  case neg =>
    rw [if_pos (show (ws.drop 2).take 1 ≠ [("=" : Str)] from fun z => e2 ((eqs 2).mp z))]
    by_cases s : wd ws 0 ∈ [("head" : Str), "size", "foot"]
    · rw [if_pos s, sized_some hw, if_pos (.inr (.inr e2))]
    rw [if_neg s, if_neg nfl]
    by_cases l : wd ws 0 ∈ linksL
    · rw [if_pos l]
      unfold tieM
      rw [if_neg (fun z => e2 z.2.2.1)]
      rfl
    · rw [if_neg l]
      rfl
  have l3 := wd_len seps.1 e2
  rw [if_neg (show ¬ (ws.drop 2).take 1 ≠ [("=" : Str)] from fun z => z ((eqs 2).mpr e2))]
  by_cases l : wd ws 0 ∈ linksL
  · obtain ⟨b1, b2⟩ := t7 _ l
    rw [if_neg b1, if_neg nfl, if_pos l, if_pos l]
    unfold tieM
    by_cases z : ws.length = 4 ∧ wd ws 1 ∈ linkedL ∧ wd ws 2 = "=" ∧ wd ws 3 ∈ linkedL
    · rw [if_pos z]
      obtain ⟨z1, z2, _, z4⟩ := z
      rw [decide_eq_true z1, show decide (wd ws 1 ∈ placesAll ++ [("bin" : Str)]) = true from decide_eq_true z2, show decide (wd ws 3 ∈ placesAll ++ [("bin" : Str)]) = true from decide_eq_true z4]
      rfl
    · rw [if_neg z]
      show false = _
      by_cases z1 : ws.length = 4
      · by_cases z2 : wd ws 1 ∈ linkedL
        · have z4 : ¬ wd ws 3 ∈ linkedL := fun y => z ⟨z1, z2, e2, y⟩
          rw [show decide (wd ws 3 ∈ placesAll ++ [("bin" : Str)]) = false from decide_eq_false z4, Bool.and_false, Bool.and_false]
        · rw [show decide (wd ws 1 ∈ placesAll ++ [("bin" : Str)]) = false from decide_eq_false z2]
          rfl
      · rw [decide_eq_false z1, Bool.false_and, Bool.and_false]
  rw [if_neg l, if_neg l]
  by_cases hd : wd ws 0 = "head"
  · rw [if_pos (show wd ws 0 ∈ [("head" : Str), "size", "foot"] from by rw [hd]; exact List.mem_cons_self ..), if_pos hd, sized_some hw, if_pos hd]
    by_cases k : wd ws 1 ∈ placesAll
    case neg =>
      rw [if_pos (.inr (.inl k)), decide_eq_false k, Bool.false_and, Bool.and_false]
    by_cases l5 : 5 < ws.length
    · rw [if_neg (show ¬ (ws.length < 4 ∨ wd ws 1 ∉ placesAll ∨ wd ws 2 ≠ "=") from fun z => z.elim (fun z => by omega) fun z => z.elim (fun z => z k) (fun z => z e2)), decide_eq_true k, decide_eq_true l5, Bool.true_and, Bool.true_and]
      cases sumB ((ws.drop 3).take (ws.length - 5)) <;> cases decide (wd ws (ws.length - 2) ∈ flagsL) <;> cases decide (wd ws (ws.length - 1) ∈ flagsL) <;> rfl
    · have sn : sumB ((ws.drop 3).take (ws.length - 5)) = false := by
        rw [show ws.length - 5 = 0 by omega, List.take_zero]
        rfl
      rw [sn, decide_eq_false l5]
      split <;> rfl
  rw [if_neg hd]
  by_cases s : wd ws 0 ∈ [("size" : Str), "foot"]
  · rw [if_pos (show wd ws 0 ∈ [("head" : Str), "size", "foot"] from List.mem_cons_of_mem _ s), sized_some hw, if_neg hd, decide_eq_true s, Bool.true_and]
    by_cases k : wd ws 1 ∈ placesAll
    case neg => rw [if_pos (.inr (.inl k)), decide_eq_false k, Bool.false_and]
    by_cases l4 : ws.length < 4
    · rw [if_pos (.inl l4), List.drop_of_length_le (by omega : ws.length ≤ 3), decide_eq_true k]
      rfl
    · rw [if_neg (show ¬ (ws.length < 4 ∨ wd ws 1 ∉ placesAll ∨ wd ws 2 ≠ "=") from fun z => z.elim l4 fun z => z.elim (fun z => z k) (fun z => z e2)), decide_eq_true k, Bool.true_and]
  · rw [if_neg (show ¬ wd ws 0 ∈ [("head" : Str), "size", "foot"] from fun z => (List.mem_cons.mp z).elim hd s), if_neg nfl, decide_eq_false s]
    rfl
end K14

set_option Elab.async false
set_option linter.all false
set_option maxRecDepth 100000
set_option maxHeartbeats 4000000
/-! k14, the law: readers -/
namespace K14
open PySem L2
theorem Same.self (H : Hp) : Same H H := fun _ _ e => e
/-- t reads x; the heap at most grows -/
def Rd (σ : L2.St) (H : Hp) (t : TE) (x : V) : Prop := ∀ H' Q, Same H H' → (∀ G, Same H' G → Q x G) → t σ H' Q
/-- t reads a list of texts -/
def RdV (σ : L2.St) (H : Hp) (t : TE) (us : List Str) : Prop := ∀ H' Q, Same H H' → (∀ p G, Same H' G → G p = some (.lst (us.map V.str)) → Q (.ref p) G) → t σ H' Q
theorem Rd.keep {σ : L2.St} {H G : Hp} {t : TE} {x : V} (h : Rd σ H t x) (s : Same H G) : Rd σ G t x := fun H' Q s2 q => h H' Q (s.trans s2) q
theorem RdV.keep {σ : L2.St} {H G : Hp} {t : TE} {us : List Str} (h : RdV σ H t us) (s : Same H G) : RdV σ G t us := fun H' Q s2 q => h H' Q (s.trans s2) q
theorem RdL.keep {σ : L2.St} {H G : Hp} {t : TE} {us : List Str} (h : RdL σ H t us) (s : Same H G) : RdL σ G t us := fun H' Q s2 q => h H' Q (s.trans s2) q
theorem RdL.v {σ : L2.St} {H : Hp} {t : TE} {us : List Str} (h : RdL σ H t us) : RdV σ H t us := fun H' Q s q => h H' Q s fun p np => q p _ (Same.new np) upd_same
theorem rdv_var {σ : L2.St} {H : Hp} {i : Nat} {p : Addr} {us : List Str} (hv : σ[i]? = some (some (.ref p))) (hp : H p = some (.lst (us.map V.str))) : RdV σ H (tVar i) us := fun H' Q s q => ⟨_, hv, q p H' (Same.self H') (s _ _ hp)⟩
theorem rdv_cat {σ : L2.St} {H : Hp} {t u : TE} {us cs : List Str} (h : RdV σ H t us) (g : RdV σ H u cs) (hl : us.length + cs.length ≤ 1000) : RdV σ H (tOp rCat t u) (us ++ cs) := by
  intro H' Q s q
  refine h H' _ s fun p G1 s1 g1 => g G1 _ (s.trans s1) fun r G2 s2 g2 => ?_
  refine ⟨p, r, _, _, rfl, rfl, s2 _ _ g1, g2, ?_, fun b nb => ?_⟩
  · rw [List.length_map, List.length_map]
    exact Nat.le_of_lt (small1000 (by omega))
  rw [← List.map_append]
  exact q b _ (s1.trans (s2.trans (Same.new nb))) upd_same
theorem rd_str (σ : L2.St) (H : Hp) (x : V) : Rd σ H (tC x) x := fun H' Q _ q => q H' (Same.self H')
theorem rd_var {σ : L2.St} {H : Hp} {i : Nat} {x : V} (hv : σ[i]? = some (some x)) : Rd σ H (tVar i) x := fun H' Q _ q => ⟨_, hv, q H' (Same.self H')⟩
section
variable {K : PySem.W.Frag} {σ : L2.St} {H : Hp} {v : Nat} {a : Addr} {ws : List Str}
theorem rd_ix {i : Nat} (hv : σ[v]? = some (some (.ref a))) (ha : H a = some (.lst (ws.map V.str))) (hi : i < ws.length) : Rd σ H (tOp (rIxL K) (tVar v) (tC (.int (i : Nat)))) (.str (wd ws i)) :=
  fun H' Q s q => ⟨_, hv, a, _, _, _, rfl, rfl, SqL.of (s _ _ ha), at_pos hi, q H' (Same.self H')⟩
theorem rd_ixn {i : Nat} (hv : σ[v]? = some (some (.ref a))) (ha : H a = some (.lst (ws.map V.str))) (h0 : 0 < i) (hi : i ≤ ws.length) : Rd σ H (tOp (rIxL K) (tVar v) (tUn (rU fun i => V.int (-i)) (tC (.int (i : Nat))))) (.str (wd ws (ws.length - i))) :=
  fun H' Q s q => ⟨_, hv, _, rfl, a, _, _, _, rfl, rfl, SqL.of (s _ _ ha), at_neg h0 hi, q H' (Same.self H')⟩
abbrev rLenS (K : PySem.W.Frag) : List V → Hp → VK → Prop := fun xs H Q => ∃ (p : Addr) (ys : List V), xs = [V.ref p] ∧ ((SqL K H p ys ∨ SqT K H p ys) ∧ Q (.int (ys.length : Nat)) H)
theorem rd_len (hv : σ[v]? = some (some (.ref a))) (ha : H a = some (.lst (ws.map V.str))) : Rd σ H (tCB (rLenS K) (tCons (tVar v) tNil)) (.int (ws.length : Nat)) := fun H' Q s q => by
  refine ⟨_, hv, a, _, rfl, .inl (SqL.of (s _ _ ha)), ?_⟩
  rw [List.length_map]
  exact q H' (Same.self H')
theorem rd_in {t u : TE} {w : Str} {cs : List Str} (h : Rd σ H t (.str w)) (l : RdV σ H u cs) : Rd σ H (tOp (rIn K false) t u) (.bl (decide (w ∈ cs))) := fun H' Q s q => by
  refine h H' _ s fun G1 s1 => l G1 _ (s.trans s1) fun p G2 s2 g2 => ?_
  refine ⟨p, _, rfl, .inl (SqL.of g2), rfl, flat_str _, ?_⟩
  rw [inV_str]
  exact q G2 (s1.trans s2)
theorem rd_eqs {t u : TE} {w c : Str} (h : Rd σ H t (.str w)) (g : Rd σ H u (.str c)) : Rd σ H (tOp rEq t u) (.bl (decide (w = c))) := fun H' Q s q => by
  refine h H' _ s fun G1 s1 => g G1 _ (s.trans s1) fun G2 s2 => ⟨rfl, ?_⟩
  rw [dec_str]
  exact q _ (s1.trans s2)
theorem dec_nat {m n : Nat} : decide (V.int (m : Nat) = V.int (n : Nat)) = decide (m = n) := decide_eq_decide.mpr ⟨fun z => by have := V.int.inj z; omega, fun z => by rw [z]⟩
theorem rd_eqn {t u : TE} {m n : Nat} (h : Rd σ H t (.int (m : Nat))) (g : Rd σ H u (.int (n : Nat))) : Rd σ H (tOp rEq t u) (.bl (decide (m = n))) := fun H' Q s q => by
  refine h H' _ s fun G1 s1 => g G1 _ (s.trans s1) fun G2 s2 => ⟨rfl, ?_⟩
  rw [dec_nat]
  exact q _ (s1.trans s2)
theorem rd_gtn {t u : TE} {m n : Nat} (h : Rd σ H t (.int (m : Nat))) (g : Rd σ H u (.int (n : Nat))) : Rd σ H (tOp (rI0 fun i j => V.bl (decide (j < i))) t u) (.bl (decide (n < m))) := fun H' Q s q => by
  refine h H' _ s fun G1 s1 => g G1 _ (s.trans s1) fun G2 s2 => ⟨_, _, rfl, rfl, ?_⟩
  dsimp only
  rw [show decide ((n : Int) < (m : Int)) = decide (n < m) from decide_eq_decide.mpr ⟨fun z => by omega, fun z => by omega⟩]
  exact q _ (s1.trans s2)
theorem rd_ltn {t u : TE} {m n : Nat} (h : Rd σ H t (.int (m : Nat))) (g : Rd σ H u (.int (n : Nat))) : Rd σ H (tOp (rI0 fun i j => V.bl (decide (i < j))) t u) (.bl (decide (m < n))) := fun H' Q s q => by
  refine h H' _ s fun G1 s1 => g G1 _ (s.trans s1) fun G2 s2 => ⟨_, _, rfl, rfl, ?_⟩
  dsimp only
  rw [show decide ((m : Int) < (n : Int)) = decide (m < n) from decide_eq_decide.mpr ⟨fun z => by omega, fun z => by omega⟩]
  exact q _ (s1.trans s2)
theorem rd_eqL {t u : TE} {us cs : List Str} (h : RdL σ H t us) (g : RdL σ H u cs) (ou : ∀ w ∈ us, PyData.strOk w = true) (oc : ∀ w ∈ cs, PyData.strOk w = true) : Rd σ H (tOp (rEqD K) t u) (.bl (decide (us = cs))) :=
  fun H' Q s q => rd_eq (h.keep s) (g.keep s) ou oc fun G sG => q G sG
theorem rd_neL {t u : TE} {us cs : List Str} (h : RdL σ H t us) (g : RdL σ H u cs) (ou : ∀ w ∈ us, PyData.strOk w = true) (oc : ∀ w ∈ cs, PyData.strOk w = true) : Rd σ H (tOp (rNeD K) t u) (.bl (!decide (us = cs))) := fun H' Q s q => by
  refine h H' _ s fun p np => g _ _ (s.trans (Same.new np)) fun r nr => ?_
  exact ne_ws (Same.new nr _ _ upd_same) upd_same ou oc (q _ ((Same.new np).trans (Same.new nr)))
theorem rd_and {t u : TE} {x y : Bool} (h : Rd σ H t (.bl x)) (g : x = true → Rd σ H u (.bl y)) : Rd σ H (tAndV t u) (.bl (x && y)) := fun H' Q s q => by
  refine h H' _ s fun G1 s1 => ⟨_, rfl, ?_⟩
  cases x with
  | true =>
    refine ifT3 rfl ?_
    exact g rfl G1 _ (s.trans s1) fun G2 s2 => q G2 (s1.trans s2)
  | false =>
    refine ifF3 rfl ?_
    exact q G1 s1
theorem rd_if {t a b : TE} {c : Bool} {x y : V} (h : Rd σ H t (.bl c)) (ha : Rd σ H a x) (hb : Rd σ H b y) : Rd σ H (tIf (tTest t) a b) (if c = true then x else y) := fun H' Q s q => by
  refine h H' _ s fun G1 s1 => ⟨_, rfl, ?_⟩
  cases c with
  | true =>
    refine ifT3 rfl ?_
    exact ha G1 _ (s.trans s1) fun G2 s2 => q G2 (s1.trans s2)
  | false =>
    refine ifF3 rfl ?_
    exact hb G1 _ (s.trans s1) fun G2 s2 => q G2 (s1.trans s2)
theorem rd_sum {t : TE} {us : List Str} (h : RdL σ H t us) (hw : ∀ w ∈ us, Wo w) (hl : us.length ≤ 1000) : Rd σ H (tCall spIsSum [] E0 (tCons t tNil)) (.bl (sumB us)) := fun H' Q s q =>
  h H' _ s fun p np => ⟨p, us, rfl, upd_same, hw, hl, fun G sG => q G ((Same.new np).trans sG)⟩
theorem rd_cut {l h : Option Int} {tl th : TO} {us : List Str} (hv : σ[v]? = some (some (.ref a))) (ha : H a = some (.lst (ws.map V.str))) (e : cutV (ws.map V.str) l h = us.map V.str) (rl : ∀ G Q, Q l G → tl σ G Q) (rh : ∀ G Q, Q h G → th σ G Q) : RdL σ H (tSl (rSlL K) (tVar v) tl th) us := fun H' Q s q => by
  refine ⟨_, hv, rl _ _ (rh _ _ ⟨a, _, rfl, SqL.of (s _ _ ha), fun p np => ?_⟩)⟩
  rw [e]
  exact q p np
end
/-- tests -/
def RdT (σ : L2.St) (H : Hp) (t : TT) (b : Bool) : Prop := ∀ H' Q, Same H H' → (∀ G, Same H' G → Q b G) → t σ H' Q
section
variable {σ : L2.St} {H : Hp}
theorem rdt {t : TE} {b : Bool} (h : Rd σ H t (.bl b)) : RdT σ H (tTest t) b := fun H' Q s q => h H' _ s fun G sG => ⟨_, rfl, q G sG⟩
theorem rdt_or {t u : TT} {x y : Bool} (h : RdT σ H t x) (g : x = false → RdT σ H u y) : RdT σ H (tOr t u) (x || y) := fun H' Q s q => by
  refine h H' _ s fun G1 s1 => ?_
  cases x with
  | true =>
    refine ifT3 rfl ?_
    exact q G1 s1
  | false =>
    refine ifF3 rfl ?_
    exact g rfl G1 _ (s.trans s1) fun G2 s2 => q G2 (s1.trans s2)
theorem rdt_and {t u : TT} {x y : Bool} (h : RdT σ H t x) (g : x = true → RdT σ H u y) : RdT σ H (tAnd t u) (x && y) := fun H' Q s q => by
  refine h H' _ s fun G1 s1 => ?_
  cases x with
  | true =>
    refine ifT3 rfl ?_
    exact g rfl G1 _ (s.trans s1) fun G2 s2 => q G2 (s1.trans s2)
  | false =>
    refine ifF3 rfl ?_
    exact q G1 s1
theorem rdt_not {t : TT} {x : Bool} (h : RdT σ H t x) : RdT σ H (tNot t) (!x) := fun H' Q s q => h H' _ s fun G sG => q G sG
theorem ifS_rd {D : Ends} {t : TT} {A B : TS} {p : Prop} [Decidable p] {b : Bool} (h : RdT σ H t b) (e : b = true ↔ p) (yes : p → ∀ G, Same H G → A D σ G) (no : ¬ p → ∀ G, Same H G → B D σ G) : tIfS t A B D σ H := by
  refine h H _ (Same.self H) fun G sG => ?_
  cases b with
  | true =>
    refine ifT3 rfl ?_
    exact yes (e.mp rfl) G sG
  | false =>
    refine ifF3 rfl ?_
    exact no (fun z => absurd (e.mpr z) Bool.false_ne_true) G sG
theorem ret_rd {D : Ends} {t : TE} {x : V} (h : Rd σ H t x) (k : ∀ G, Same H G → D.rt x G) : tRet t D σ H := h H _ (Same.self H) k
end
end K14

set_option Elab.async false
set_option linter.all false
set_option maxRecDepth 100000
set_option maxHeartbeats 8000000
/-! k14, the law: lines, its own reading -/
namespace K14
open PySem L2
abbrev sIsLine : Stmt := top 75
theorem Ln.str {x : Str} (h : Ln x) : PyData.strOk x = true := by
  unfold PyData.strOk
  rw [Array.all_eq_true]
  intro i hi
  have := (h.ok _ (Array.getElem_mem_toList hi)).1
  exact decide_eq_true (by omega)
theorem joinL_many {S : List Nat} (hS : 1 ≤ S.length) : ∀ ps : List (List Nat), ps.length ≤ (TL.joinL S ps).length + 1
  | [] => Nat.zero_le _
  | [p] => by show 1 ≤ _; omega
  | p :: q :: r => by
    have ih := joinL_many hS (q :: r)
    show (q :: r).length + 1 ≤ (p ++ (S ++ TL.joinL S (q :: r))).length + 1
    rw [List.length_append, List.length_append]
    simp only [List.length_cons] at ih ⊢
    omega
theorem split_ln {t : Str} (h : Ln t) (y : Str) (hy : 1 ≤ y.length) : (∀ p ∈ Txt.split t y, Ln p) ∧ (Txt.split t y).length ≤ 601 := by
  have e : TL.tl t = TL.joinL (TL.tl y) ((Txt.split t y).map TL.tl) := by
    have h2 := congrArg TL.tl (StrLaws.join_split t y)
    rw [TL.tl_join] at h2
    exact h2.symm
  have l := h.len
  have el : t.length = (TL.joinL (TL.tl y) ((Txt.split t y).map TL.tl)).length := by rw [← e]; rfl
  constructor
  · intro p hp
    have m : TL.tl p ∈ (Txt.split t y).map TL.tl := List.mem_map.mpr ⟨p, hp, rfl⟩
    refine ⟨fun c hc => h.ok c (by rw [e]; exact joinL_sub m hc), ?_⟩
    have z : (TL.tl p).length ≤ _ := joinL_long (S := TL.tl y) m
    have z2 : p.length = (TL.tl p).length := rfl
    omega
  · have z := joinL_many (S := TL.tl y) hy ((Txt.split t y).map TL.tl)
    rw [List.length_map] at z
    omega
theorem tail_ln {x : Str} (h : Ln x) : Ln (Txt.join " " ((Txt.split x " ").drop 1)) := by
  have e := split_tl x
  have tls : TL.tl (" " : Str) = [32] := by decide +kernel
  cases q : Txt.split x " " with
  | nil => exact absurd q (split_ne x)
  | cons w r =>
    rw [q] at e
    have tt : TL.tl (Txt.join " " ((w :: r).drop 1)) = wl r := by rw [TL.join_eq, TL.tl_join, tls]; rfl
    have sub : (∀ c ∈ wl r, c ∈ TL.tl x) ∧ (wl r).length ≤ (TL.tl x).length := by
      cases r with
      | nil => exact ⟨fun c hc => (nomatch hc), Nat.zero_le _⟩
      | cons a t =>
        have e2 : TL.tl x = TL.tl w ++ ([32] ++ wl (a :: t)) := e
        rw [e2]
        refine ⟨fun c hc => List.mem_append_right _ (List.mem_append_right _ hc), ?_⟩
        rw [List.length_append, List.length_append]
        omega
    have l := h.len
    refine ⟨fun c hc => h.ok c (sub.1 c (by rw [← tt]; exact hc)), ?_⟩
    have z : (Txt.join " " ((w :: r).drop 1)).length = (wl r).length := by rw [← tt]; rfl
    have z2 : x.length = (TL.tl x).length := rfl
    omega
theorem Ln.cap {x : Str} (h : Ln x) : x.length + 2 ≤ sizeLine := by
  have l := h.len
  exact Nat.le_of_lt (small1000 (by omega))
theorem cut_23 (ws : List Str) : cutV (ws.map V.str) (some 2) (some 3) = ((ws.drop 2).take 1).map V.str := by
  by_cases l : 3 ≤ ws.length
  · exact cut_two ws 2 3 l (by decide)
  · match ws, l with
    | [], _ => rfl
    | [a], _ => rfl
    | [a, b], _ => rfl
    | a :: b :: c :: r, l => exact absurd (show 3 ≤ (a :: b :: c :: r).length from Nat.le_add_left 3 r.length) l
theorem cut_3e (ws : List Str) (h : 5 ≤ ws.length) : cutV (ws.map V.str) (some 3) (some (-2)) = ((ws.drop 3).take (ws.length - 5)).map V.str := by
  unfold cutV
  have e1 : HT.sIx (ws.map V.str).length 0 (some (3 : Int)) = 3 := by
    show (if (3 : Int) < 0 then ((3 : Int) + ((ws.map V.str).length : Int)).toNat else min (3 : Int).toNat (ws.map V.str).length) = 3
    rw [if_neg (by decide), List.length_map]
    exact Nat.min_eq_left (by show 3 ≤ ws.length; omega)
  have e2 : HT.sIx (ws.map V.str).length (ws.map V.str).length (some (-2 : Int)) = ws.length - 2 := by
    show (if (-2 : Int) < 0 then ((-2 : Int) + ((ws.map V.str).length : Int)).toNat else min (-2 : Int).toNat (ws.map V.str).length) = _
    rw [if_pos (by decide), List.length_map]
    omega
  rw [e1, e2, List.map_take, List.map_drop]
  congr 1
theorem rd_in2 {K : PySem.W.Frag} {σ : L2.St} {H : Hp} {t : TE} {us : List Str} (h : RdL σ H t us) (ou : ∀ w ∈ us, PyData.strOk w = true) : Rd σ H (tOp (rInD K) t (tLst (tCons (tLst (tCons (tC (.str "used")) tNil)) (tCons (tLst (tCons (tC (.str "free")) tNil)) tNil)))) (.bl (decide (us ∈ [[("used" : Str)], [("free" : Str)]]))) := by
  intro H' Q s q
  refine h H' _ s fun p np => ?_
  have t1 := Same.new (o := .lst (us.map V.str)) np
  refine ⟨(by show 1 ≤ sizeLine; decide), fun r nr => ?_⟩
  have t2 := Same.new (o := .lst [.str "used"]) nr
  refine ⟨(by show 1 ≤ sizeLine; decide), fun u nu => ?_⟩
  have t3 := Same.new (o := .lst [.str "free"]) nu
  refine ⟨(by show 2 ≤ sizeLine; decide), fun z nz => ?_⟩
  have t4 := Same.new (o := .lst [.ref r, .ref u]) nz
  refine ⟨.list (us.map .str), [.list ([("used" : Str)].map .str), .list ([("free" : Str)].map .str)], .lst (SqL.of ((t2.trans (t3.trans t4)) _ _ upd_same)) (dp_strs _ _ _),
    .lst (SqL.of upd_same) (.cons (.lst (SqL.of ((t3.trans t4) _ _ upd_same)) (dp_strs _ _ [("used" : Str)])) (.cons (.lst (SqL.of (t4 _ _ upd_same)) (dp_strs _ _ [("free" : Str)])) .nil)), shaped_strs ou, by decide +kernel, ?_⟩
  have e := any_eqv us [[("used" : Str)], [("free" : Str)]]
  rw [show ([.list ([("used" : Str)].map .str), .list ([("free" : Str)].map .str)] : List PyData).any (fun z => PyData.eqv z (.list (us.map .str))) = decide (us ∈ [[("used" : Str)], [("free" : Str)]]) from e]
  exact q _ (t1.trans (t2.trans (t3.trans t4)))
theorem two_of {y : Str} : ∀ {ws : List Str}, (ws.drop 1).take 1 = [y] → ∃ w0 w1 t, ws = w0 :: w1 :: t
  | [], c => absurd (show ([] : List Str) = [y] from c) (fun z => by cases z)
  | [_], c => absurd (show ([] : List Str) = [y] from c) (fun z => by cases z)
  | w0 :: w1 :: t, _ => ⟨w0, w1, t, rfl⟩
theorem three_of {y : Str} : ∀ {ws : List Str}, ¬ (ws.drop 2).take 1 ≠ [y] → 3 ≤ ws.length
  | [], c => absurd (show ([] : List Str) ≠ [y] from fun z => by cases z) c
  | [_], c => absurd (show ([] : List Str) ≠ [y] from fun z => by cases z) c
  | [_, _], c => absurd (show ([] : List Str) ≠ [y] from fun z => by cases z) c
  | _ :: _ :: _ :: r, _ => Nat.le_add_left 3 r.length
theorem gname_to {i : Nat} {v : V} {σ σ2 : L2.St} {H : Hp} {Q : L2.St → Hp → Prop} (e : σ.set i (some v) = σ2) (h : Q σ2 H) : gName i v σ H Q := by rw [← e] at h; exact h
abbrev nmIsLine : List Str := ["_law_line", "_law_words", "_law_places_here", "_law_flags", "_law_parts", "_law_fine", "_law_part"]
theorem scIsLine : FnScope nmIsLine ["_law_line"] (defScope sIsLine) := ⟨rfl, rfl, rfl, by decide +kernel, rfl, by decide +kernel, by decide +kernel⟩
def spIsLine : Sp := fun vs H Q _ => ∃ x : Str, vs = [.str x] ∧ Ln x ∧ ∀ H', Same H H' → Q (.bl (lineB x)) H'
section
variable {P : Program} {w : World} {K : PySem.W.Frag} {mg : Str → Option Value} {base : Heap}
theorem ok_isline {f fS fP fI fT : Addr} {fd fdS fdP fdI fdT : FuncData} (F : Fun K "_law_is_line" "_law_is_line" sIsLine f fd) (T : TxtN mg)
    (GS : FnOk P w K mg base CX0 2 fS fdS ["_law_words"] spIsSum) (kS : PySem.W.keepIn K (.ref fS) = true) (bS : Binds K fdS ["_law_words"] []) (gS : mg "_law_is_sum" = some (.ref fS))
    (GP : FnOk P w K mg base CX0 1 fP fdP [] (spList placesAll)) (kP : PySem.W.keepIn K (.ref fP) = true) (bP : Binds K fdP [] []) (gP : mg "_law_places" = some (.ref fP))
    (GI : FnOk P w K mg base CX0 3 fI fdI ["_law_words"] spIsPart) (kI : PySem.W.keepIn K (.ref fI) = true) (bI : Binds K fdI ["_law_words"] []) (gI : mg "_law_is_part" = some (.ref fI))
    (GT : FnOk P w K mg base CX0 3 fT fdT ["_law_words"] spIsSet) (kT : PySem.W.keepIn K (.ref fT) = true) (bT : Binds K fdT ["_law_words"] []) (gT : mg "_law_is_setting" = some (.ref fT)) : FnOk P w K mg base CX0 4 f fd ["_law_line"] spIsLine := by
  have sc := scIsLine
  refine F.ok scIsLine (fun vs H Q E h => ?_) (fun cdv A outer s H vs Q E hr h => ?_)
  · obtain ⟨x, rfl, _⟩ := h
    rfl
  · obtain ⟨x, rfl, hx, k⟩ := h
    have hr1 : Room 1 _ := hr.mono (by decide)
    have hr2 : Room 2 _ := hr.mono (by decide)
    refine ⟨_, pss_cons (ps_par3 (i := 1) (j := 2) (l := 3) rfl sc.nd rfl rfl rfl (by decide) (by decide) (by decide) rfl rfl rfl (pa_cons (pe_split (pv 0) pe_str) (pa_cons (pe_call0 GP hr1 rfl gP kP bP .nil pass0) (pa_cons (pe_lst (pa_cons pe_str (pa_cons pe_str pa_nil))) pa_nil))) (by rfl))
      (pss_cons (ps_if (pt_cmpR op_eq (pe_ix ix_list (pv 1) pe_int (fun _ _ => rfl)) pe_str (nomark _))
        (pss_cons (ps_set (i := 4) sc.nd rfl (.inl rfl) (pe_split (pe_join pe_str (pe_slice sl_list (pv 1) (po_some pe_int) po_none)) pe_str))
        (pss_one (ps_ret (pe_and (pe_cmpR op_lt (pe_callB call_len_seq (by rfl) T.len PySem.boot_len (pa_cons (pv 4) pa_nil)) pe_int (nomark _)) (pe_one (pe_cmpR (op_eqD hr.units)
          (pe_lc (own := [("_law_part", 6)]) (g := gName 6) (te := tVar 6) rfl sc.nd (by exact pi_list (pv 4)) (blkOk_by (own := [("_law_part", 6)]) (N := nmIsLine) (sc := defScope sIsLine) (by decide +kernel)) (fun _ _ _ _ _ => pg_name (i := 6) sc.nd rfl (Or.inl rfl)) (fun _ _ _ _ _ => pts_one (pt_not (pt_val (by exact (pe_call GI hr rfl gI kI bI .nil pass0 (by exact (pa_cons (pe_split (pv 6) pe_str) pa_nil))))))) (fun _ _ _ _ _ => pv 6))
          (pe_lst pa_nil) (nomark _))))))) pss_nil)
      (pss_cons (ps_if (pt_cmpR op_in_seq (pv 0) (pe_lst (pa_cons pe_str (pa_cons pe_str pa_nil))) (by rfl)) (pss_one (ps_ret pe_bl)) pss_nil)
      (pss_cons (ps_if (pt_cmpR (op_eqD hr.units) (pe_slice sl_list (pv 1) (po_some pe_int) (po_some pe_int)) (pe_lst (pa_cons pe_str pa_nil)) (nomark _)) (pss_one (ps_ret (pe_call GT hr rfl gT kT bT .nil pass0 (pa_cons (pv 1) pa_nil)))) pss_nil)
      (pss_cons (ps_if (PW.pt (pw_or (pt_cmpR op_in_seq (pe_ix ix_list (pv 1) pe_int (fun _ _ => rfl)) (pv 3) (by rfl)) (pw_or1 (PW.pt (pw_and (pt_cmpR op_eq (pe_ix ix_list (pv 1) pe_int (fun _ _ => rfl)) pe_str (nomark _)) (pw_and1 (pt_cmpR (op_inD hr.units65) (pe_slice sl_list (pv 1) (po_some pe_int) (po_some pe_int)) (pe_lst (pa_cons (pe_lst (pa_cons pe_str pa_nil)) (pa_cons (pe_lst (pa_cons pe_str pa_nil)) pa_nil))) (by rfl))))))))
        (pss_one (ps_ret (pe_and (pe_cmpR op_eq (pe_callB call_len_seq (by rfl) T.len PySem.boot_len (pa_cons (pv 1) pa_nil)) (pe_ifExp (pt_cmpR op_in_seq (pe_ix ix_list (pv 1) pe_int (fun _ _ => rfl)) (pv 3) (by rfl)) pe_int pe_int) (nomark _)) (pe_one (pe_cmpR op_in_seq (pe_ix ix_list (pv 1) (pe_un un_neg pe_int) (fun _ _ => rfl)) (pv 2) (by rfl)))))) pss_nil)
      (pss_cons (ps_if (pt_cmpR (op_neD hr.units) (pe_slice sl_list (pv 1) (po_some pe_int) (po_some pe_int)) (pe_lst (pa_cons pe_str pa_nil)) (nomark _)) (pss_one (ps_ret pe_bl)) pss_nil)
      (pss_cons (ps_if (pt_cmpR op_in_seq (pe_ix ix_list (pv 1) pe_int (fun _ _ => rfl)) (pe_lst (pa_cons pe_str (pa_cons pe_str pa_nil))) (by rfl))
        (pss_one (ps_ret (pe_and (pe_cmpR op_in_seq (pe_ix ix_list (pv 1) pe_int (fun _ _ => rfl)) (pe_op op_cat (pv 2) (pe_lst (pa_cons pe_str pa_nil))) (by rfl)) (pe_and (pe_cmpR op_eq (pe_callB call_len_seq (by rfl) T.len PySem.boot_len (pa_cons (pv 1) pa_nil)) pe_int (nomark _)) (pe_one (pe_cmpR op_in_seq (pe_ix ix_list (pv 1) pe_int (fun _ _ => rfl)) (pe_op op_cat (pv 2) (pe_lst (pa_cons pe_str pa_nil))) (by rfl))))))) pss_nil)
      (pss_cons (ps_if (pt_cmpR op_eq (pe_ix ix_list (pv 1) pe_int (fun _ _ => rfl)) pe_str (nomark _))
        (pss_cons (ps_set (i := 5) sc.nd rfl (.inl rfl) (pe_and (pe_cmpR op_gt (pe_callB call_len_seq (by rfl) T.len PySem.boot_len (pa_cons (pv 1) pa_nil)) pe_int (nomark _)) (pe_and (pe_cmpR op_in_seq (pe_ix ix_list (pv 1) (pe_un un_neg pe_int) (fun _ _ => rfl)) (pv 3) (by rfl)) (pe_one (pe_cmpR op_in_seq (pe_ix ix_list (pv 1) (pe_un un_neg pe_int) (fun _ _ => rfl)) (pv 3) (by rfl))))))
        (pss_one (ps_ret (pe_and (pv 5) (pe_and (pe_cmpR op_in_seq (pe_ix ix_list (pv 1) pe_int (fun _ _ => rfl)) (pv 2) (by rfl)) (pe_one (pe_call GS hr2 rfl gS kS bS .nil pass0 (pa_cons (pe_slice sl_list (pv 1) (po_some pe_int) (po_some (pe_un un_neg pe_int))) pa_nil)))))))) pss_nil)
      (pss_one (ps_ret (pe_and (pe_cmpR op_in_seq (pe_ix ix_list (pv 1) pe_int (fun _ _ => rfl)) (pe_lst (pa_cons pe_str (pa_cons pe_str pa_nil))) (by rfl)) (pe_and (pe_cmpR op_in_seq (pe_ix ix_list (pv 1) pe_int (fun _ _ => rfl)) (pv 2) (by rfl)) (pe_one (pe_call GS hr2 rfl gS kS bS .nil pass0 (pa_cons (pe_slice sl_list (pv 1) (po_some pe_int) po_none) pa_nil)))))))))))))), ?_⟩
    obtain ⟨hw, hl6⟩ := hx.words
    have ne := split_ne x
    have pb : lineB x = lineB x := rfl
    conv at pb => rhs; unfold lineB
    have tl := @tail_ln x hx
    have cap := hx.cap
    have ifp : ifB (Txt.split x " ") = ifB (Txt.split x " ") := rfl
    conv at ifp => rhs; unfold ifB tailP
    refine ⟨_, rfl, ⟨x, rfl⟩, x, " ", rfl, rfl, by decide +kernel, cap, ?_⟩
    obtain ⟨ws, ews⟩ : ∃ ws, ws = Txt.split x " " := ⟨_, rfl⟩
    rw [← ews] at hw hl6 ne pb tl ifp ⊢
    intro a na
    dsimp only at pb
    have s1 := Same.new (o := .lst (ws.map V.str)) na
    refine ⟨rfl, fun R H2 s2 gR => ?_⟩
    refine ⟨(by show 2 ≤ sizeLine; decide), fun Fg nF => ?_⟩
    refine ⟨_, _, _, rfl, ?_⟩
    have s3 := Same.new (o := .lst (flagsL.map V.str)) nF
    have sA := s1.trans (s2.trans s3)
    have ga : upd H2 Fg (.lst (flagsL.map V.str)) a = some (.lst (ws.map V.str)) := (s2.trans s3) _ _ upd_same
    have gR := s3 _ _ gR
    have gF : upd H2 Fg (.lst (flagsL.map V.str)) Fg = some (.lst (flagsL.map V.str)) := upd_same
    have sa : Same H (upd H2 Fg (.lst (flagsL.map V.str))) := sA
    show tSeq _ _ _ [some (.str x), some (.ref a), some (.ref R), some (.ref Fg), none, none, none] (upd H2 Fg (.lst (flagsL.map V.str)))
    generalize upd H2 Fg (.lst (flagsL.map V.str)) = G at ga gR gF sa ⊢
    have p0 : 0 < ws.length := List.length_pos_iff.mpr ne
    have hs : ∀ w ∈ ws, PyData.strOk w = true := fun w h => (hw w h).str
    have f1 : ∀ w ∈ [("=" : Str)], PyData.strOk w = true := by decide +kernel
    refine ifS_rd (p := wd ws 0 = "if") (rdt (rd_eqs (rd_ix rfl ga p0) (rd_str _ _ _))) decide_eq_true_iff (fun c G1 t1 => ?_) (fun c G1 t1 => nxt ?_)
    · rw [if_pos c] at pb
      have u1 := sa.trans t1
      have hc := tl.cap
      have lj : ∀ ys : List Str, ys = ws.drop 1 → (ys.map fun y => y.length).sum + ys.length * (" " : Str).length ≤ 16777216 := by
        intro ys e
        have b1 : ∀ l : List Str, (∀ w ∈ l, Wo w) → (l.map fun y => y.length).sum ≤ l.length * 600 := by
          intro l
          induction l with
          | nil => intro _; exact Nat.zero_le _
          | cons y l ih =>
            intro h
            have z := (h y (by simp)).len
            have z2 := ih fun w hw => h w (by simp [hw])
            rw [List.map_cons, List.sum_cons, List.length_cons]
            omega
        have b2 := b1 ys (fun w h => hw w (List.drop_subset _ _ (by rw [← e]; exact h)))
        have b3 : ys.length ≤ 601 := by rw [e, List.length_drop]; omega
        rw [show (" " : Str).length = 1 by decide +kernel]
        omega
      refine ⟨⟨_, rfl⟩, rd_drop (K := K) (σ := [some (.str x), some (.ref a), some (.ref R), some (.ref Fg), none, none, none]) (i := 1) (n := 1) rfl (t1 _ _ ga) G1 _ (Same.self _) fun p np => ?_⟩
      have t2 := Same.new (o := .lst ((ws.drop 1).map V.str)) np
      refine ⟨" ", p, ws.drop 1, rfl, rfl, .inl (SqL.of upd_same), lj _ rfl, ⟨_, rfl⟩, _, " and ", rfl, rfl, by decide +kernel, hc, fun B nB => ?_⟩
      obtain ⟨hps, hpl⟩ := split_ln tl " and " (by decide +kernel)
      obtain ⟨ps, eps⟩ : ∃ ps, ps = Txt.split (Txt.join " " (ws.drop 1)) " and " := ⟨_, rfl⟩
      rw [← eps] at hps hpl ifp ⊢
      have t3 := Same.new (o := .lst (ps.map V.str)) nB
      have u3 := u1.trans (t2.trans t3)
      refine gname_to rfl ?_
      dsimp only
      refine ret_rd (x := .bl (lineB x)) ?_ fun G2 t4 => k _ (u3.trans t4)
      have gB : upd (upd G1 p (.lst ((ws.drop 1).map V.str))) B (.lst (ps.map V.str)) B = some (.lst (ps.map V.str)) := upd_same
      generalize upd (upd G1 p (.lst ((ws.drop 1).map V.str))) B (.lst (ps.map V.str)) = G3 at gB ⊢
      rw [pb, ifp]
      refine rd_and (rd_ltn (n := 5) (rd_len rfl gB) (rd_str _ _ _)) fun _ => ?_
      intro H4 Q4 s4 q4
      have gB4 := s4 _ _ gB
      refine ⟨_, rfl, B, rfl, ⟨_, SqL.of gB4⟩, fun D nD => ?_⟩
      have sD := Same.new (o := .lst []) nD
      refine lc_list (K := K) (a := B) (xs := ps.map V.str) (fun i G2 => Same H4 G2 ∧ G2 D = some (.lst (((ps.take i).filter (fun p => !goodP (Txt.split p " "))).map V.str))) ⟨sD, upd_same⟩ (fun i G2 _ ⟨s, _⟩ => SqL.of (s _ _ gB4)) ?_ ?_
      · rintro i y G2 hi ⟨s2, g2⟩
        obtain ⟨t, ht, rfl⟩ : ∃ t, ps[i]? = some t ∧ y = V.str t := by
          rw [List.getElem?_map] at hi
          cases e : ps[i]? with
          | none => rw [e] at hi; cases hi
          | some t => rw [e] at hi; exact ⟨t, rfl, (Option.some.inj hi).symm⟩
        have hpt : Ln t := hps t (List.mem_of_getElem? ht)
        obtain ⟨hwt, hlt⟩ := hpt.words
        have more : ((ps.take (i + 1)).filter (fun p => !goodP (Txt.split p " "))) = ((ps.take i).filter (fun p => !goodP (Txt.split p " "))) ++ (if goodP (Txt.split t " ") = true then [] else [t]) := by
          rw [take_more ht, List.filter_append, List.filter_cons, List.filter_nil]
          congr 1
          cases goodP (Txt.split t " ") <;> rfl
        have hfl : ((ps.take i).filter (fun p => !goodP (Txt.split p " "))).length ≤ 601 := Nat.le_trans (List.length_filter_le _ _) (Nat.le_trans (List.length_take_le _ _) (by have := (List.getElem?_eq_some_iff.mp ht).1; omega))
        refine ⟨rfl, ?_⟩
        refine ⟨_, rfl, ⟨t, rfl⟩, t, " ", rfl, rfl, by decide +kernel, hpt.cap, fun r nr => ?_⟩
        have s5 := Same.new (o := .lst ((Txt.split t " ").map V.str)) nr
        refine ⟨r, _, rfl, upd_same, hwt, by omega, fun G6 s6 => ?_⟩
        have s7 := s5.trans s6
        refine ⟨_, rfl, ?_⟩
        by_cases c : goodP (Txt.split t " ") = true
        · refine ifF3 (show (!goodP (Txt.split t " ")) = false by rw [c]; rfl) ?_
          refine ⟨s2.trans s7, ?_⟩
          rw [more, if_pos c, List.append_nil]
          exact s7 _ _ g2
        · refine ifT3 (show (!goodP (Txt.split t " ")) = true by rw [Bool.eq_false_iff.mpr c]; rfl) ?_
          refine ⟨_, rfl, _, s7 _ _ g2, small1000 (by rw [List.length_map]; omega), Same.write (s2.trans s7) nD, ?_⟩
          rw [upd_same, more, if_neg c, List.map_append]
          rfl
      rintro G2 ⟨s5, g2⟩
      rw [List.length_map, List.take_length] at g2
      refine ⟨(by show 0 ≤ sizeLine; decide), fun Z nZ => ?_⟩
      have sZ := Same.new (o := .lst []) nZ
      refine eq_ws (b := []) (sZ _ _ g2) upd_same (fun w h => (hps w (List.mem_filter.mp h).1).str) (fun w h => nomatch h) (q4 _ (s5.trans sZ))
    rw [if_neg c] at pb
    refine ifS_rd (p := x = "no" ∨ x = "quit") (rdt (rd_in (cs := ["no", "quit"]) (rd_var rfl) (RdL.v (rd_two _ _ _ _)))) (by rw [decide_eq_true_iff]; simp) (fun c G2 t2 => ?_) (fun c G2 t2 => nxt ?_)
    · rw [if_pos c] at pb
      refine ret_rd (rd_str _ _ _) fun G3 t3 => ?_
      have z := k _ (sa.trans (t1.trans (t2.trans t3)))
      rw [pb] at z
      exact z
    rw [if_neg c] at pb
    have ga := (t1.trans t2) _ _ ga
    have gR := (t1.trans t2) _ _ gR
    have gF := (t1.trans t2) _ _ gF
    have sa := sa.trans (t1.trans t2)
    have hs1 : ∀ n m, ∀ w ∈ (ws.drop n).take m, PyData.strOk w = true := fun n m w h => hs w (List.drop_subset _ _ (List.take_subset _ _ h))
    refine ifS_rd (p := (ws.drop 1).take 1 = [("=" : Str)]) (rdt (rd_eqL (rd_cut rfl ga (cut_12 ws) (fun G Q q => ⟨_, rfl, q⟩) (fun G Q q => ⟨_, rfl, q⟩)) (rd_one _ _ _) (hs1 1 1) f1)) decide_eq_true_iff (fun c G3 t3 => ?_) (fun c G3 t3 => nxt ?_)
    · rw [if_pos c] at pb
      obtain ⟨w0, w1, t, rfl⟩ : ∃ w0 w1 t, ws = w0 :: w1 :: t := two_of c
      refine ⟨_, rfl, a, w0, w1, t, rfl, t3 _ _ ga, fun w h => hw w (by simp [h]), by simp only [List.length_cons] at hl6; omega, fun G4 t4 => ?_⟩
      have z := k _ (sa.trans (t3.trans t4))
      rw [pb] at z
      exact z
    rw [if_neg c] at pb
    have ga := t3 _ _ ga
    have gR := t3 _ _ gR
    have gF := t3 _ _ gF
    have sa := sa.trans t3
    have rF := rd_in (K := K) (cs := flagsL) (rd_ix (K := K) (σ := [some (.str x), some (.ref a), some (.ref R), some (.ref Fg), none, none, none]) (v := 1) rfl ga p0) (rdv_var (i := 3) rfl gF)
    refine ifS_rd (p := wd ws 0 ∈ flagsL ∨ (wd ws 0 = "ahead" ∧ (ws.drop 1).take 1 ∈ [[("used" : Str)], [("free" : Str)]])) (rdt_or (rdt rF) fun _ => rdt_and (rdt (rd_eqs (rd_ix rfl ga p0) (rd_str _ _ _))) fun _ => rdt (rd_in2 (rd_cut rfl ga (cut_12 ws) (fun G Q q => ⟨_, rfl, q⟩) (fun G Q q => ⟨_, rfl, q⟩)) (hs1 1 1))) (by rw [Bool.or_eq_true, Bool.and_eq_true, decide_eq_true_iff, decide_eq_true_iff, decide_eq_true_iff]) (fun c G4 t4 => ?_) (fun c G4 t4 => nxt ?_)
    · rw [if_pos c] at pb
      have ga := t4 _ _ ga
      have gR := t4 _ _ gR
      have rF := rF.keep t4
      refine ret_rd (rd_and (rd_eqn (n := if wd ws 0 ∈ flagsL then 2 else 3) (rd_len rfl ga) ?_) fun _ => rd_in (rd_ixn (i := 1) rfl ga (by decide) p0) (rdv_var rfl gR)) fun G5 t5 => ?_
      · have z := rd_if rF (rd_str _ _ (.int 2)) (rd_str _ _ (.int 3))
        by_cases c2 : wd ws 0 ∈ flagsL
        · rw [decide_eq_true c2] at z
          rw [if_pos c2]
          exact z
        · rw [decide_eq_false c2] at z
          rw [if_neg c2]
          exact z
      · have z := k _ (sa.trans (t4.trans t5))
        rw [pb] at z
        exact z
    rw [if_neg c] at pb
    have ga := t4 _ _ ga
    have gR := t4 _ _ gR
    have gF := t4 _ _ gF
    have sa := sa.trans t4
    refine ifS_rd (p := (ws.drop 2).take 1 ≠ [("=" : Str)]) (rdt (rd_neL (rd_cut rfl ga (cut_23 ws) (fun G Q q => ⟨_, rfl, q⟩) (fun G Q q => ⟨_, rfl, q⟩)) (rd_one _ _ _) (hs1 2 1) f1)) (by rw [Bool.not_eq_true', decide_eq_false_iff_not]) (fun c G5 t5 => ?_) (fun c G5 t5 => nxt ?_)
    · rw [if_pos c] at pb
      refine ret_rd (rd_str _ _ _) fun G6 t6 => ?_
      have z := k _ (sa.trans (t5.trans t6))
      rw [pb] at z
      exact z
    rw [if_neg c] at pb
    have ga := t5 _ _ ga
    have gR := t5 _ _ gR
    have gF := t5 _ _ gF
    have sa := sa.trans t5
    have l3 : 3 ≤ ws.length := three_of c
    refine ifS_rd (p := wd ws 0 ∈ linksL) (rdt (rd_in (cs := linksL) (rd_ix rfl ga p0) (RdL.v (rd_two _ _ _ _)))) decide_eq_true_iff (fun c G6 t6 => ?_) (fun c G6 t6 => nxt ?_)
    · rw [if_pos c] at pb
      have ga := t6 _ _ ga
      have gR := t6 _ _ gR
      refine ret_rd (rd_and (rd_in (rd_ix (i := 1) rfl ga (by omega)) (rdv_cat (rdv_var rfl gR) (RdL.v (rd_one _ _ _)) (by decide))) fun _ => rd_and (rd_eqn (n := 4) (rd_len rfl ga) (rd_str _ _ _)) fun e4 => rd_in (rd_ix (i := 3) rfl ga (by have := of_decide_eq_true e4; omega)) (rdv_cat (rdv_var rfl gR) (RdL.v (rd_one _ _ _)) (by decide))) fun G7 t7 => ?_
      have z := k _ (sa.trans (t6.trans t7))
      rw [pb] at z
      exact z
    rw [if_neg c] at pb
    have ga := t6 _ _ ga
    have gR := t6 _ _ gR
    have gF := t6 _ _ gF
    have sa := sa.trans t6
    refine ifS_rd (p := wd ws 0 = "head") (rdt (rd_eqs (rd_ix rfl ga p0) (rd_str _ _ _))) decide_eq_true_iff (fun c G7 t7 => ?_) (fun c G7 t7 => nxt ?_)
    · rw [if_pos c] at pb
      have ga := t7 _ _ ga
      have gR := t7 _ _ gR
      have gF := t7 _ _ gF
      refine rd_and (rd_gtn (n := 5) (rd_len rfl ga) (rd_str _ _ _)) (fun e5 => rd_and (rd_in (rd_ixn (i := 1) rfl ga (by decide) (by omega)) (rdv_var rfl gF)) fun _ => rd_in (rd_ixn (i := 2) rfl ga (by decide) (by omega)) (rdv_var rfl gF)) G7 _ (Same.self _) fun G8 t8 => ?_
      have ga := t8 _ _ ga
      have gR := t8 _ _ gR
      refine gname_to rfl ?_
      dsimp only
      refine ret_rd (rd_and (rd_var rfl) fun e5 => rd_and (rd_in (rd_ix (i := 1) rfl ga (by omega)) (rdv_var rfl gR)) fun _ => rd_sum (rd_cut rfl ga (cut_3e ws ?_) (fun G Q q => ⟨_, rfl, q⟩) (fun G Q q => ⟨_, rfl, _, rfl, q⟩)) (fun w h => hw w (List.drop_subset _ _ (List.take_subset _ _ h))) ?_) fun G9 t9 => ?_
      · have := of_decide_eq_true (Bool.and_eq_true_iff.mp e5).1
        omega
      · rw [List.length_take, List.length_drop]
        omega
      · have z := k _ (sa.trans (t7.trans (t8.trans t9)))
        rw [pb] at z
        exact z
    rw [if_neg c] at pb
    have ga := t7 _ _ ga
    have gR := t7 _ _ gR
    refine ret_rd (rd_and (rd_in (cs := ["size", "foot"]) (rd_ix rfl ga p0) (RdL.v (rd_two _ _ _ _))) fun _ => rd_and (rd_in (rd_ix (i := 1) rfl ga (by omega)) (rdv_var rfl gR)) fun _ => rd_sum (rd_drop (n := 3) rfl ga) (fun w h => hw w (List.drop_subset _ _ h)) (by rw [List.length_drop]; omega)) fun G8 t8 => ?_
    have z := k _ (sa.trans (t7.trans t8))
    rw [pb] at z
    exact z
end
end K14

set_option Elab.async false
set_option linter.all false
set_option maxRecDepth 100000
set_option maxHeartbeats 4000000
/-! k14, the law: readers under draws; a drawn number -/
namespace K14
open PySem L2 K14D
theorem BagAt.mono {c : Addr} {H : Hp} {b : Addr} {m m' : Nat} (h : BagAt c H b m) (l : m ≤ m') : BagAt c H b m' := by
  obtain ⟨ns, p, q, r, z, B⟩ := h
  exact ⟨ns, p, q, r, z, B.at_, B.cs, B.len, B.p0, B.q0, B.r0, by have := B.rm; omega, B.z0, B.z1⟩
theorem BagAt.here {c : Addr} {H : Hp} {b : Addr} {m : Nat} (h : BagAt c H b m) : ∃ o, H b = some o := by
  obtain ⟨ns, p, q, r, z, B⟩ := h
  exact ⟨_, B.at_⟩
theorem BagAt.ne {c : Addr} {H : Hp} {b p : Addr} {m : Nat} (h : BagAt c H b m) (n : H p = none) : p ≠ b := fun z => by
  obtain ⟨o, e⟩ := BagAt.here h
  rw [z, e] at n
  cases n
theorem BagAt.nel {c : Addr} {H : Hp} {b p : Addr} {m : Nat} {xs : List V} (h : BagAt c H b m) (n : H p = some (.lst xs)) : p ≠ b := fun z => by
  obtain ⟨ns, p', q, r, z', B⟩ := h
  have e := B.at_
  rw [← z, n] at e
  cases e
theorem but_same {b : Addr} {H G : Hp} (s : Same H G) : But b H G := fun x o h _ => s x o h
/-- t reads a value that P says, behind at most k draws -/
def RB (b c : Addr) (σ : L2.St) (H : Hp) (k : Nat) (t : TE) (P : V → Prop) : Prop :=
  ∀ m H' Q, But b H H' → BagAt c H' b m → m + k ≤ 90000 → (∀ x G, P x → But b H' G → BagAt c G b (m + k) → Q x G) → t σ H' Q
def RBA (b c : Addr) (σ : L2.St) (H : Hp) (k : Nat) (t : TA) (P : List V → Prop) : Prop :=
  ∀ m H' Q, But b H H' → BagAt c H' b m → m + k ≤ 90000 → (∀ x G, P x → But b H' G → BagAt c G b (m + k) → Q x G) → t σ H' Q
abbrev TxP (p : Str → Prop) : V → Prop := fun x => ∃ s, x = .str s ∧ p s
abbrev NmP (p : Nat → Prop) : V → Prop := fun x => ∃ n : Nat, x = .int (n : Int) ∧ p n
abbrev rAddS : R2 := fun x y H Q => ∃ i j, x = .str i ∧ y = .str j ∧ i.length + j.length ≤ sizeLine ∧ Q (.str (i ++ j)) H
section
variable {b c : Addr} {σ : L2.St} {H : Hp} {k k1 k2 : Nat} {t u : TE} {ta : TA} {K : PySem.W.Frag} {P P' P1 P2 : V → Prop} {PA : List V → Prop}
theorem RB.mono (h : RB b c σ H k t P) (i : ∀ x, P x → P' x) : RB b c σ H k t P' := fun m H' Q s B l q => h m H' Q s B l fun x G p => q x G (i x p)
theorem RB.more (h : RB b c σ H k1 t P) (i : k1 ≤ k2) : RB b c σ H k2 t P := fun m H' Q s B l q => h m H' Q s B (by omega) fun x G p sG BG => q x G p sG (BagAt.mono BG (by omega))
theorem RBA.mono {PB : List V → Prop} (h : RBA b c σ H k ta PA) (i : ∀ x, PA x → PB x) : RBA b c σ H k ta PB := fun m H' Q s B l q => h m H' Q s B l fun x G p => q x G (i x p)
theorem rb_c (x : V) : RB b c σ H 0 (tC x) (fun y => y = x) := fun m H' Q s B l q => q x H' rfl (But.refl b H') B
theorem rb_v {i : Nat} {x : V} (hv : σ[i]? = some (some x)) : RB b c σ H 0 (tVar i) (fun y => y = x) := fun m H' Q s B l q => ⟨_, hv, q x H' rfl (But.refl b H') B⟩
theorem rba_nil : RBA b c σ H 0 tNil (fun xs => xs = []) := fun m H' Q s B l q => q [] H' rfl (But.refl b H') B
theorem rba_cons (h : RB b c σ H k1 t P) (g : RBA b c σ H k2 ta PA) : RBA b c σ H (k1 + k2) (tCons t ta) (fun xs => ∃ y ys, xs = y :: ys ∧ P y ∧ PA ys) := fun m H' Q s B l q => by
  refine h m H' _ s B (by omega) fun y G p sG BG => ?_
  refine g (m + k1) G _ (s.trans sG) BG (by omega) fun ys G2 p2 s2 B2 => ?_
  exact q _ G2 ⟨y, ys, rfl, p, p2⟩ (sG.trans s2) (by rw [← Nat.add_assoc]; exact B2)
theorem rs_cat {p1 p2 : Str → Prop} (h : RB b c σ H k1 t (TxP p1)) (g : RB b c σ H k2 u (TxP p2)) (hl : ∀ x y, p1 x → p2 y → x.length + y.length ≤ 1000) : RB b c σ H (k1 + k2) (tOp rAddS t u) (TxP fun s => ∃ x y, p1 x ∧ p2 y ∧ s = x ++ y) := fun m H' Q s B l q => by
  refine h m H' _ s B (by omega) fun x G p sG BG => ?_
  obtain ⟨x, rfl, p⟩ := p
  refine g (m + k1) G _ (s.trans sG) BG (by omega) fun y G2 p2 s2 B2 => ?_
  obtain ⟨y, rfl, p2⟩ := p2
  refine ⟨x, y, rfl, rfl, Nat.le_of_lt (small1000 (hl x y p p2)), ?_⟩
  exact q _ G2 ⟨_, rfl, x, y, p, p2, rfl⟩ (sG.trans s2) (by rw [← Nat.add_assoc]; exact B2)
theorem rb_draw {i : Nat} {pn : Nat → Prop} (hv : σ[i]? = some (some (.ref b))) (h : RB b c σ H k t (NmP pn)) (hn : ∀ n, pn n → 0 < n ∧ n ≤ 10 ^ 30) : RB b c σ H (k + 1) (tCall spDraw [] E0 (tCons (tVar i) (tCons t tNil))) (NmP fun d => ∃ n, pn n ∧ d < n) := fun m H' Q s B l q => by
  refine ⟨_, hv, ?_⟩
  refine h m H' _ s B (by omega) fun x G p sG BG => ?_
  obtain ⟨n, rfl, p⟩ := p
  obtain ⟨n0, n1⟩ := hn n p
  refine ⟨b, c, n, m + k, rfl, BG, by omega, by omega, ?_, fun r G2 r0 r1 B2 s2 => ?_⟩
  · have e : (10 : Nat) ^ 30 = 1000000000000000000000000000000 := by decide
    rw [e] at n1
    omega
  · obtain ⟨d, rfl⟩ : ∃ d : Nat, r = (d : Int) := ⟨r.toNat, by omega⟩
    exact q _ G2 ⟨d, rfl, n, p, by omega⟩ (sG.trans s2) (by rw [← Nat.add_assoc]; exact B2)
theorem rb_d {i n : Nat} (hv : σ[i]? = some (some (.ref b))) (h0 : 0 < n) (h1 : n ≤ 1000) : RB b c σ H 1 (tCall spDraw [] E0 (tCons (tVar i) (tCons (tC (.int (n : Nat))) tNil))) (NmP fun d => d < n) := by
  have z := rb_draw (b := b) (c := c) (H := H) (k := 0) (pn := fun j => j = n) hv ((rb_c (.int (n : Nat))).mono fun x e => ⟨n, e, rfl⟩) (fun j e => by
    have e30 : 1000 ≤ (10 : Nat) ^ 30 := by decide
    omega)
  exact z.mono fun x ⟨d, e, j, ej, l⟩ => ⟨d, e, by omega⟩
theorem rb_pick {n : Nat} (h : RBA b c σ H k1 ta PA) (hn : ∀ xs, PA xs → xs.length = n) (hn1 : n ≤ 1000) (g : RB b c σ H k2 u (NmP fun d => d < n)) : RB b c σ H (k1 + k2) (tOp (rIxL K) (tLst ta) u) (fun x => ∃ xs, PA xs ∧ x ∈ xs) := fun m H' Q s B l q => by
  refine h m H' _ s B (by omega) fun xs G p sG BG => ?_
  have l1 := hn xs p
  refine ⟨Nat.le_of_lt (small1000 (by omega)), fun a na => ?_⟩
  have t1 := Same.new (o := .lst xs) na
  have nb := BagAt.ne BG na
  refine g (m + k1) _ _ (s.trans (sG.trans (but_same t1))) (BagAt.keep BG t1) (by omega) fun y G2 py s2 B2 => ?_
  obtain ⟨d, rfl, hd⟩ := py
  have gd : xs[d]? = some xs[d] := List.getElem?_eq_getElem (by omega)
  refine ⟨a, xs, _, _, rfl, rfl, SqL.of (s2 _ _ upd_same nb), atI_nat gd, ?_⟩
  exact q _ G2 ⟨xs, p, List.getElem_mem _⟩ (sG.trans ((but_same t1).trans s2)) (by rw [← Nat.add_assoc]; exact B2)
theorem ret_rb {D : Ends} {m : Nat} (h : RB b c σ H k t P) (B : BagAt c H b m) (l : m + k ≤ 90000) (q : ∀ x G, P x → But b H G → BagAt c G b (m + k) → D.rt x G) : tRet t D σ H := h m H _ (But.refl b H) B l q
end
/-! ### numbers -/
abbrev sNumber : Stmt := top 65
/-- a drawn number, as a word -/
def numP (x : Str) : Prop := numB x = true ∧ Wo x ∧ x.length ≤ 30
theorem num_drawn {n : Nat} (h : n < 10 ^ 30) : numP (toString ((n : Nat) : Int)) := by
  have e : TL.tl (Str.ofString (toString ((n : Nat) : Int))) = TL.numL n := TL.tl_num n
  have d := TL.numL_digits n
  have l : (TL.numL n).length ≤ 30 := TL.numL_len (by decide) h
  have l2 : (Str.ofString (toString ((n : Nat) : Int))).length = (TL.numL n).length := by rw [← e]; rfl
  have head : TL.numL n = [48] ∨ (TL.numL n).head? ≠ some 48 := by
    clear e l l2 d h
    induction n using Nat.strongRecOn with
    | _ n ih =>
      by_cases c : n < 10
      · rw [TL.numL_lt c]
        by_cases z : n = 0
        · left; rw [z]
        · right
          intro q
          have := Option.some.inj q
          omega
      · rw [TL.numL_step (by omega)]
        right
        rcases ih (n / 10) (by omega) with q | q
        · have z := TL.numL_val (n / 10)
          rw [q] at z
          have : NumText.digitsVal [48] = 0 := by decide
          omega
        · cases y : TL.numL (n / 10) with
          | nil => exact absurd y (TL.numL_ne _)
          | cons a r =>
            rw [y] at q
            exact q
  refine ⟨?_, ⟨fun c hc => ?_, ?_, ?_⟩, ?_⟩
  · unfold numB digB
    show (!(TL.tl (Str.ofString (toString ((n : Nat) : Int)))).isEmpty && _ && (decide ((Str.ofString (toString ((n : Nat) : Int))).length ≤ 30) && _)) = true
    rw [e, decide_eq_true (show (Str.ofString (toString ((n : Nat) : Int))).length ≤ 30 by omega), Bool.true_and]
    have ne := TL.numL_ne n
    have e1 : (!(TL.numL n).isEmpty) = true := by
      cases y : TL.numL n with
      | nil => exact absurd y ne
      | cons a r => rfl
    rw [e1, Bool.true_and]
    have e2 : ((TL.numL n).all fun c => decide (48 ≤ c ∧ c ≤ 57)) = true := List.all_eq_true.mpr fun c hc => decide_eq_true (d c hc)
    rw [e2, Bool.true_and, Bool.or_eq_true]
    rcases head with q | q
    · left
      refine decide_eq_true (TL.ext_tl ?_)
      show TL.tl (Str.ofString (toString ((n : Nat) : Int))) = _
      rw [e, q]
      decide +kernel
    · right
      rw [decide_eq_false q]
      rfl
  · have hc : c ∈ TL.numL n := by rw [← e]; exact hc
    have := d c hc
    exact ⟨by omega, by omega⟩
  · show 32 ∉ TL.tl (Str.ofString (toString ((n : Nat) : Int)))
    rw [e]
    exact TL.numL_free (by omega)
  · show (Str.ofString (toString ((n : Nat) : Int))).length ≤ 600
    omega
  · show (Str.ofString (toString ((n : Nat) : Int))).length ≤ 30
    omega
/-- contracts of what draws texts -/
def spTx (k : Nat) (p : Str → Prop) : Sp := fun vs H Q _ => ∃ (b c : Addr) (m : Nat), vs = [.ref b] ∧ BagAt c H b m ∧ m + k ≤ 90000 ∧ ∀ x G, p x → But b H G → BagAt c G b (m + k) → Q (.str x) G
structure TxtS3 (mg : Str → Option Value) : Prop where
  str : mg "str" = none
  int : mg "int" = none
  range : mg "range" = none
section
variable {P : Program} {w : World} {K : PySem.W.Frag} {mg : Str → Option Value} {base : Heap}
theorem rb_tx {b c : Addr} {σ : L2.St} {H : Hp} {i k : Nat} {p : Str → Prop} (hv : σ[i]? = some (some (.ref b))) : RB b c σ H k (tCall (spTx k p) [] E0 (tCons (tVar i) tNil)) (TxP p) := fun m H' Q s B l q =>
  ⟨_, hv, b, c, m, rfl, B, l, fun x G px sG BG => q _ G ⟨x, rfl, px⟩ sG BG⟩
theorem rb_pow {b c : Addr} {σ : L2.St} {H : Hp} : RB b c σ H 0 (tOp (rI CPow fun i j => .int (i ^ j.toNat)) (tC (.int 10)) (tC (.int 30))) (fun x => x = .int ((10 ^ 30 : Nat) : Int)) := fun m H' Q s B l q =>
  ⟨10, 30, rfl, rfl, ⟨by decide, by decide, by decide⟩, q _ H' (congrArg V.int (by decide)) (But.refl b H') B⟩
abbrev nmNumber : List Str := ["_law_bag_here"]
theorem scNumber : FnScope nmNumber ["_law_bag_here"] (defScope sNumber) := ⟨rfl, rfl, rfl, by decide +kernel, rfl, by decide +kernel, by decide +kernel⟩
theorem ok_number {f fD : Addr} {fd fdD : FuncData} (F : Fun K "_law_number" "_law_number" sNumber f fd) (T3 : TxtS3 mg)
    (GD : FnOk P w K mg base CX0 1 fD fdD ["_law_bag_here", "_law_limit"] spDraw) (kD : PySem.W.keepIn K (.ref fD) = true) (bD : Binds K fdD ["_law_bag_here", "_law_limit"] []) (gD : mg "_law_draw" = some (.ref fD)) : FnOk P w K mg base CX0 2 f fd ["_law_bag_here"] (spTx 2 numP) := by
  have sc := scNumber
  refine F.ok scNumber (fun vs H Q E h => ?_) (fun cdv A outer s H vs Q E hr h => ?_)
  · obtain ⟨b, c, m, rfl, _⟩ := h
    rfl
  · obtain ⟨b, c, m, rfl, B, hm, k⟩ := h
    have hr1 : Room 1 _ := hr.mono (by decide)
    refine ⟨_, pss_one (ps_ret (pe_callTy call_str_int (by rfl) T3.str (by decide +kernel) (pa_cons (pe_call GD hr1 rfl gD kD bD .nil pass0 (pa_cons (pv 0) (pa_cons (pe_ix ix_list (pe_lst (pa_cons pe_int (pa_cons pe_int (pa_cons pe_int (pa_cons (pe_op op_pow pe_int pe_int) pa_nil))))) (pe_call GD hr1 rfl gD kD bD .nil pass0 (pa_cons (pv 0) (pa_cons pe_int pa_nil))) (fun _ _ => rfl)) pa_nil))) pa_nil))), ?_⟩
    have lst := rba_cons (b := b) (c := c) (σ := L2.start nmNumber [V.ref b]) (H := H) (rb_c (.int 2)) (rba_cons (rb_c (.int 10)) (rba_cons (rb_c (.int 99)) (rba_cons rb_pow rba_nil)))
    have pick := rb_pick (n := 4) (K := K) lst (fun xs h => by
      obtain ⟨y1, r1, rfl, rfl, y2, r2, rfl, rfl, y3, r3, rfl, rfl, y4, r4, rfl, rfl, rfl⟩ := h
      rfl) (by decide) (rb_d (n := 4) (i := 0) rfl (by decide) (by decide))
    have lim := pick.mono (P' := NmP fun n => n = 2 ∨ n = 10 ∨ n = 99 ∨ n = 10 ^ 30) fun x h => by
      obtain ⟨xs, ⟨y1, r1, rfl, rfl, y2, r2, rfl, rfl, y3, r3, rfl, rfl, y4, r4, rfl, rfl, rfl⟩, hx⟩ := h
      rcases List.mem_cons.mp hx with e | hx
      · exact ⟨2, e, .inl rfl⟩
      rcases List.mem_cons.mp hx with e | hx
      · exact ⟨10, e, .inr (.inl rfl)⟩
      rcases List.mem_cons.mp hx with e | hx
      · exact ⟨99, e, .inr (.inr (.inl rfl))⟩
      · exact ⟨10 ^ 30, List.mem_singleton.mp hx, .inr (.inr (.inr rfl))⟩
    have e30 : 1000 ≤ (10 : Nat) ^ 30 := by decide
    have d := rb_draw (i := 0) rfl lim (fun n h => by omega)
    refine d m H _ (But.refl b H) B (by omega) fun x G p sG BG => ?_
    obtain ⟨n, rfl, lm, pl, hn⟩ := p
    have hn : n < 10 ^ 30 := by omega
    refine ⟨n, rfl, ?_, k _ G (num_drawn hn) sG (BagAt.mono BG (by omega))⟩
    refine Nat.lt_of_le_of_lt (m := 100) ?_ (by decide)
    have z : n < 2 ^ 100 := Nat.lt_trans hn (by decide)
    rw [Int.natAbs_natCast]
    by_cases c0 : n = 0
    · rw [c0]; decide
    · exact Nat.le_of_lt ((Nat.log2_lt c0).mpr z)
end
end K14

set_option Elab.async false
set_option linter.all false
set_option maxRecDepth 100000
set_option maxHeartbeats 8000000
/-! k14, the law: a drawn sum -/
namespace L2
open PySem
/-- a text, once or not at all -/
def rMul01 : R2 := fun x y H Q => ∃ (i : Str) (k : Int), x = .str i ∧ y = .int k ∧ (k = 0 ∨ k = 1) ∧ Q (.str (if k = 1 then i else Str.empty)) H
theorem op_mul01 {X : Cx} : OpR X (binaryOp .Mult) rMul01 := by
  intro pins s σ H x y v u Q I rx ry h
  obtain ⟨i, k, rfl, rfl, hk, q⟩ := h
  obtain ⟨t, rfl⟩ := rx
  obtain ⟨t', rfl⟩ := ry
  rcases hk with rfl | rfl
  · exact PySem.P.mul_str_none (by decide) (by decide) ⟨.str _, H, I.tok _, ⟨_, rfl⟩, q⟩
  · refine PySem.P.mul_str (by decide) (fun _ z => by simp at z) (fun _ z => by simp at z) ?_
    rw [if_neg (by decide), show ((1 : Int) == 1 || i.length == 0) = true from rfl, if_pos rfl]
    exact ⟨.str i, H, I, ⟨_, rfl⟩, q⟩
end L2
namespace K14
open PySem L2 K14D
abbrev sDSum : Stmt := top 66
/-- a drawn sum -/
def sumP (s : Str) : Prop := ∃ ws, TL.tl s = wl ws ∧ (∀ w ∈ ws, Wo w) ∧ ws ≠ [] ∧ sumB ws = true ∧ s.length ≤ 132
/-- a sum under way: i terms -/
structure SumI (i : Nat) (ws : List Str) (found : Str) (rest : List Str) : Prop where
  tl : TL.tl found = wl ws
  wo : ∀ w ∈ ws, Wo w
  len : ws.length = 2 * i - 1
  sg : (odds ws).all sgnB = true
  nd : (nn (evens ws)).Nodup
  nm : ∀ t ∈ nn (evens ws), t ∈ namesL ∧ t ∉ rest
  fl : found.length ≤ 33 * i
theorem evens_two {ws : List Str} (h : ws.length % 2 = 1) (s t : Str) : evens (ws ++ [s, t]) = evens ws ++ [t] ∧ odds (ws ++ [s, t]) = odds ws ++ [s] := by
  obtain ⟨e1, e2⟩ := evens_snoc ws s
  obtain ⟨e3, e4⟩ := evens_snoc (ws ++ [s]) t
  rw [if_neg (by omega), List.append_nil] at e1
  rw [if_pos h] at e2
  rw [if_pos (by rw [List.length_append]; simp; omega), List.append_assoc] at e3
  rw [if_neg (by rw [List.length_append]; simp; omega), List.append_assoc, List.append_nil] at e4
  exact ⟨by rw [← e1]; exact e3, by rw [← e2]; exact e4⟩
theorem nn_term {rest : List Str} {n x : Str} {l : List Str} (hn : n ∈ rest) (hx : x = n ∨ numP x) (hl : (nn l).Nodup) (hm : ∀ t ∈ nn l, t ∈ namesL ∧ t ∉ rest) (hr : ∀ t ∈ rest, t ∈ namesL) :
    (nn (l ++ [x])).Nodup ∧ ∀ r2 : List Str, (∀ t ∈ r2, t ∈ rest ∧ t ≠ n) → ∀ t ∈ nn (l ++ [x]), t ∈ namesL ∧ t ∉ r2 := by
  rw [nn_app]
  have e : nn [x] = if numB x = true then [] else [x] := by
    unfold nn
    rw [List.filter_cons, List.filter_nil]
    cases numB x <;> rfl
  rw [e]
  by_cases c : numB x = true
  · rw [if_pos c, List.append_nil]
    exact ⟨hl, fun r2 h2 t ht => ⟨(hm t ht).1, fun z => (hm t ht).2 (h2 t z).1⟩⟩
  · rw [if_neg c]
    have xn : x = n := hx.elim id fun q => absurd q.1 c
    subst xn
    refine ⟨?_, fun r2 h2 t ht => ?_⟩
    · rw [List.nodup_append]
      exact ⟨hl, by simp, fun a ha b hb => by
        rw [List.mem_singleton.mp hb]
        exact fun z => (hm a ha).2 (by rw [z]; exact hn)⟩
    · rcases List.mem_append.mp ht with q | q
      · exact ⟨(hm t q).1, fun z => (hm t q).2 (h2 t z).1⟩
      · rw [List.mem_singleton.mp q]
        exact ⟨hr x hn, fun z => (h2 x z).2 rfl⟩
theorem sgn_wo : Wo "+" ∧ Wo "-" := by
  refine ⟨⟨?_, by decide +kernel, by decide +kernel⟩, ⟨?_, by decide +kernel, by decide +kernel⟩⟩
  · have h : ∀ c ∈ TL.tl ("+" : Str), c < 128 ∧ c ≠ 10 := by decide +kernel
    exact h
  · have h : ∀ c ∈ TL.tl ("-" : Str), c < 128 ∧ c ≠ 10 := by decide +kernel
    exact h
theorem names_wo : ∀ t ∈ namesL, Wo t ∧ t.length ≤ 5 := by
  have h : ∀ t ∈ namesL, (∀ c ∈ TL.tl t, c < 128 ∧ c ≠ 10) ∧ 32 ∉ TL.tl t ∧ t.length ≤ 600 ∧ t.length ≤ 5 := by decide +kernel
  intro t ht
  obtain ⟨a, b, c, d⟩ := h t ht
  exact ⟨⟨a, b, c⟩, d⟩
theorem sgn_tl : TL.tl (" + " : Str) = [32] ++ (TL.tl ("+" : Str) ++ [32]) ∧ TL.tl (" - " : Str) = [32] ++ (TL.tl ("-" : Str) ++ [32]) ∧ (" + " : Str).length = 3 ∧ (" - " : Str).length = 3 := by decide +kernel
theorem term_wo {rest : List Str} {n x : Str} (hn : n ∈ namesL) (hx : x = n ∨ numP x) : Wo x ∧ x.length ≤ 30 := by
  rcases hx with rfl | h
  · have := names_wo x hn
    exact ⟨this.1, by omega⟩
  · exact h.2
theorem SumI.first {rest r2 : List Str} {n x f : Str} (h : SumI 0 [] f rest) (hn : n ∈ rest) (hr : ∀ t ∈ rest, t ∈ namesL) (hx : x = n ∨ numP x) (h2 : ∀ t ∈ r2, t ∈ rest ∧ t ≠ n) : SumI 1 [x] (f ++ Str.empty ++ x) r2 := by
  obtain ⟨hw, hl⟩ := term_wo (rest := rest) (hr n hn) hx
  obtain ⟨a, b⟩ := nn_term hn hx (l := []) List.nodup_nil (fun t ht => nomatch ht) hr
  have f0 := h.fl
  have fe : TL.tl f = [] := h.tl
  refine ⟨?_, fun w hm => by rw [List.mem_singleton.mp hm]; exact hw, rfl, rfl, a, b r2 h2, ?_⟩
  · rw [TL.tl_append, TL.tl_append, fe]
    rfl
  · have e : (f ++ Str.empty ++ x).length = (TL.tl (f ++ Str.empty ++ x)).length := rfl
    rw [e, TL.tl_append, TL.tl_append, fe]
    show (TL.tl x).length ≤ 33
    have : (TL.tl x).length = x.length := rfl
    omega
theorem SumI.next {i : Nat} {ws rest r2 : List Str} {n x f g s : Str} (i0 : 0 < i) (h : SumI i ws f rest) (hn : n ∈ rest) (hr : ∀ t ∈ rest, t ∈ namesL) (hx : x = n ∨ numP x) (h2 : ∀ t ∈ r2, t ∈ rest ∧ t ≠ n)
    (hs : s = "+" ∨ s = "-") (hg : TL.tl g = [32] ++ (TL.tl s ++ [32])) (gl : g.length = 3) : SumI (i + 1) (ws ++ [s, x]) (f ++ g ++ x) r2 := by
  obtain ⟨hw, hl⟩ := term_wo (rest := rest) (hr n hn) hx
  obtain ⟨a, b⟩ := nn_term hn hx h.nd h.nm hr
  have l := h.len
  obtain ⟨e1, e2⟩ := evens_two (ws := ws) (by omega) s x
  refine ⟨?_, fun w hm => ?_, ?_, ?_, by rw [e1]; exact a, by rw [e1]; exact b r2 h2, ?_⟩
  · rw [TL.tl_append, TL.tl_append, h.tl, hg, wl_app (x := ws) (y := [s, x]) (fun z => by rw [z] at l; simp at l; omega) (by simp)]
    show _ = wl ws ++ (32 :: (TL.tl s ++ ([32] ++ TL.tl x)))
    simp [List.append_assoc]
  · rcases List.mem_append.mp hm with q | q
    · exact h.wo w q
    · rcases List.mem_cons.mp q with q | q
      · rw [q]
        rcases hs with rfl | rfl
        · exact sgn_wo.1
        · exact sgn_wo.2
      · rw [List.mem_singleton.mp q]
        exact hw
  · rw [List.length_append, l]
    show 2 * i - 1 + 2 = 2 * (i + 1) - 1
    omega
  · rw [e2, List.all_append, h.sg]
    rcases hs with rfl | rfl <;> decide +kernel
  · have fl := h.fl
    have e : (f ++ g ++ x).length = (TL.tl (f ++ g ++ x)).length := rfl
    rw [e, TL.tl_append, TL.tl_append, List.length_append, List.length_append]
    show f.length + g.length + x.length ≤ _
    omega
theorem SumI.done {i : Nat} {ws rest : List Str} {f : Str} (i0 : 0 < i) (i4 : i ≤ 4) (h : SumI i ws f rest) : sumP f := by
  have l := h.len
  have fl := h.fl
  refine ⟨ws, h.tl, h.wo, fun z => by rw [z] at l; simp at l; omega, ?_, by omega⟩
  unfold sumB
  rw [decide_eq_true (by omega : ws.length % 2 = 1 ∧ ws.length ≤ 7), h.sg, okGo_eq, Bool.true_and, Bool.true_and]
  exact decide_eq_true ⟨fun t ht => ⟨(h.nm t ht).1, fun z => nomatch z⟩, h.nd⟩
abbrev nmDSum : List Str := ["_law_bag_here", "_law_names_here", "_law_found", "_law_turn", "_law_name", "_law_term"]
theorem scDSum : FnScope nmDSum ["_law_bag_here"] (defScope sDSum) := ⟨rfl, rfl, rfl, by decide +kernel, rfl, by decide +kernel, by decide +kernel⟩
section
variable {P : Program} {w : World} {K : PySem.W.Frag} {mg : Str → Option Value} {base : Heap}
def spFresh (ls : List Str) : Sp := fun vs H Q _ => vs = [] ∧ ∀ R H', Same H H' → H R = none → H' R = some (.lst (ls.map V.str)) → Q (.ref R) H'
theorem ok_namesF {f : Addr} {fd : FuncData} (F : Fun K "_law_names" "_law_names" sNames f fd) : FnOk P w K mg base CX0 1 f fd [] (spFresh namesL) := by
  refine F.ok scNames (fun vs H Q E h => ?_) (fun cdv A outer s H vs Q E hr h => ?_)
  · obtain ⟨rfl, _⟩ := h
    rfl
  · obtain ⟨rfl, k⟩ := h
    exact ⟨_, pss_one (ps_ret (pe_lst (pa_cons pe_str (pa_cons pe_str (pa_cons pe_str (pa_cons pe_str (pa_cons pe_str (pa_cons pe_str pa_nil)))))))), (by show 6 ≤ sizeLine; decide), fun R nR => k R _ (Same.new nR) nR upd_same⟩
theorem rb_1p {b c : Addr} {σ : L2.St} {H : Hp} {i n : Nat} (hv : σ[i]? = some (some (.ref b))) (h0 : 0 < n) (h1 : n ≤ 1000) : RB b c σ H 1 (tOp (rI0 fun i j => V.int (i + j)) (tC (.int 1)) (tCall spDraw [] E0 (tCons (tVar i) (tCons (tC (.int (n : Nat))) tNil)))) (NmP fun j => 1 ≤ j ∧ j ≤ n) := fun m H' Q s B l q => by
  refine rb_d (b := b) (c := c) (H := H) (n := n) (i := i) hv h0 h1 m H' _ s B l fun x G px sG BG => ?_
  obtain ⟨d, rfl, hd⟩ := px
  refine ⟨_, _, rfl, rfl, q _ G ⟨d + 1, ?_, by omega, by omega⟩ sG BG⟩
  exact congrArg V.int (by omega)
theorem rb_len {b c : Addr} {σ : L2.St} {H : Hp} {v : Nat} {a : Addr} {xs : List V} (hv : σ[v]? = some (some (.ref a))) (ha : H a = some (.lst xs)) (ab : a ≠ b) : RB b c σ H 0 (tCB (rLenS K) (tCons (tVar v) tNil)) (NmP fun n => n = xs.length) := fun m H' Q s B l q =>
  ⟨_, hv, a, xs, rfl, .inl (SqL.of (s _ _ ha ab)), q _ H' ⟨_, rfl, rfl⟩ (But.refl b H') B⟩
theorem rb_gap {b c : Addr} {σ : L2.St} {H : Hp} {i : Nat} (h0 : σ[0]? = some (some (.ref b))) (h3 : σ[3]? = some (some (.int ((0 : Int) + (i : Nat))))) : RB b c σ H 1 (tOp rMul01 (tOp (rIxL K) (tLst (tCons (tC (.str " + ")) (tCons (tC (.str " - ")) tNil))) (tCall spDraw [] E0 (tCons (tVar 0) (tCons (tC (.int 2)) tNil))))
      (tCB (fun xs H Q => (∃ i, xs = [V.int i] ∧ Q (V.int i) H) ∨ ∃ k, xs = [V.bl k] ∧ Q (V.int (if k = true then 1 else 0)) H) (tCons (tOp (rI0 fun i j => V.bl (decide (j < i))) (tVar 3) (tC (.int 0))) tNil)))
    (TxP fun g => (i = 0 ∧ g = Str.empty) ∨ (0 < i ∧ (g = " + " ∨ g = " - "))) := fun m H' Q s B l q => by
  have lst := rba_cons (b := b) (c := c) (σ := σ) (H := H) (rb_c (.str " + ")) (rba_cons (rb_c (.str " - ")) rba_nil)
  have pick := rb_pick (n := 2) (K := K) lst (fun xs h => by
      obtain ⟨y1, r1, rfl, rfl, y2, r2, rfl, rfl, rfl⟩ := h
      rfl) (by decide) (rb_d (n := 2) (i := 0) h0 (by decide) (by decide))
  refine pick m H' _ s B (by omega) fun x G px sG BG => ?_
  obtain ⟨xs, ⟨y1, r1, rfl, rfl, y2, r2, rfl, rfl, rfl⟩, hx⟩ := px
  obtain ⟨g, rfl, hg⟩ : ∃ g : Str, x = .str g ∧ (g = " + " ∨ g = " - ") := by
    rcases List.mem_cons.mp hx with e | hx
    · exact ⟨_, e, .inl rfl⟩
    · exact ⟨_, List.mem_singleton.mp hx, .inr rfl⟩
  refine ⟨_, h3, _, _, rfl, rfl, .inr ⟨_, rfl, ?_⟩⟩
  by_cases c0 : i = 0
  · have e : decide ((0 : Int) < 0 + (i : Nat)) = false := decide_eq_false (by omega)
    refine ⟨g, 0, rfl, ?_, .inl rfl, ?_⟩
    · show V.int (if decide ((0 : Int) < 0 + (i : Nat)) = true then 1 else 0) = _
      rw [e]
      rfl
    · exact q _ G ⟨_, rfl, .inl ⟨c0, rfl⟩⟩ sG (BagAt.mono BG (by omega))
  · have e : decide ((0 : Int) < 0 + (i : Nat)) = true := decide_eq_true (by omega)
    refine ⟨g, 1, rfl, ?_, .inr rfl, ?_⟩
    · show V.int (if decide ((0 : Int) < 0 + (i : Nat)) = true then 1 else 0) = _
      rw [e]
      rfl
    · exact q _ G ⟨_, rfl, .inr ⟨by omega, hg⟩⟩ sG (BagAt.mono BG (by omega))
theorem bag_write {c : Addr} {G : Hp} {b N : Addr} {m : Nat} {o : HO} (B : BagAt c G b m) (nb : N ≠ b) (nc : N ≠ c) : BagAt c (upd G N o) b m := by
  obtain ⟨ns, p, q, r, z, B⟩ := B
  exact ⟨ns, p, q, r, z, by rw [upd_ne nb.symm]; exact B.at_, by rw [upd_ne nc.symm]; exact B.cs, B.len, B.p0, B.q0, B.r0, B.rm, B.z0, B.z1⟩
theorem but_write {b N : Addr} {H G : Hp} {o : HO} (s : But b H G) (n : H N = none) : But b H (upd G N o) := fun x u h nx => by
  rw [upd_ne (ne_of_none h n)]
  exact s x u h nx
theorem bag_cells {c : Addr} {H : Hp} {b N : Addr} {m : Nat} (B : BagAt c H b m) (n : H N = none) : N ≠ c := fun z => by
  obtain ⟨ns, p, q, r, z', B⟩ := B
  have e := B.cs
  rw [← z, n] at e
  cases e
theorem erase_map : ∀ (l : List Str) (d : Nat), (l.map V.str).eraseIdx d = (l.eraseIdx d).map V.str
  | [], _ => rfl
  | a :: r, 0 => rfl
  | a :: r, d + 1 => by
    show V.str a :: (r.map V.str).eraseIdx d = V.str a :: (r.eraseIdx d).map V.str
    rw [erase_map r d]
theorem erase_mem : ∀ {l : List Str} {d : Nat} {n : Str}, l.Nodup → l[d]? = some n → ∀ t ∈ l.eraseIdx d, t ∈ l ∧ t ≠ n
  | [], d, n, _, h, t, ht => by simp at h
  | a :: r, 0, n, nd, h, t, ht => by
    have e : a = n := Option.some.inj h
    have ht : t ∈ r := ht
    exact ⟨List.mem_cons_of_mem _ ht, fun z => (List.nodup_cons.mp nd).1 (by rw [e, ← z]; exact ht)⟩
  | a :: r, d + 1, n, nd, h, t, ht => by
    have h : r[d]? = some n := by simpa using h
    rcases List.mem_cons.mp (show t ∈ a :: r.eraseIdx d from ht) with e | ht
    · rw [e]
      exact ⟨List.mem_cons_self .., fun z => (List.nodup_cons.mp nd).1 (by rw [z]; exact List.mem_of_getElem? h)⟩
    · obtain ⟨i1, i2⟩ := erase_mem (List.nodup_cons.mp nd).2 h t ht
      exact ⟨List.mem_cons_of_mem _ i1, i2⟩
theorem seq_at {d n : Nat} (h : d < n) : seqIndex? (d : Int) n = some d := by
  have e0 : (if (d : Int) < 0 then (d : Int) + n else (d : Int)) = d := if_neg (by omega)
  have e : (decide ((0 : Int) ≤ (d : Int)) && decide ((d : Int) < (n : Int))) = true := by
    rw [Bool.and_eq_true]
    exact ⟨decide_eq_true (by omega), decide_eq_true (by omega)⟩
  unfold seqIndex?
  dsimp only
  rw [e0, if_pos e]
  rfl
theorem ok_dsum {f fD fN fM : Addr} {fd fdD fdN fdM : FuncData} (F : Fun K "_law_sum" "_law_sum" sDSum f fd) (T : TxtN mg) (T3 : TxtS3 mg)
    (GD : FnOk P w K mg base CX0 1 fD fdD ["_law_bag_here", "_law_limit"] spDraw) (kD : PySem.W.keepIn K (.ref fD) = true) (bD : Binds K fdD ["_law_bag_here", "_law_limit"] []) (gD : mg "_law_draw" = some (.ref fD))
    (GN : FnOk P w K mg base CX0 1 fN fdN [] (spFresh namesL)) (kN : PySem.W.keepIn K (.ref fN) = true) (bN : Binds K fdN [] []) (gN : mg "_law_names" = some (.ref fN))
    (GM : FnOk P w K mg base CX0 2 fM fdM ["_law_bag_here"] (spTx 2 numP)) (kM : PySem.W.keepIn K (.ref fM) = true) (bM : Binds K fdM ["_law_bag_here"] []) (gM : mg "_law_number" = some (.ref fM)) : FnOk P w K mg base CX0 3 f fd ["_law_bag_here"] (spTx 21 sumP) := by
  have sc := scDSum
  refine F.ok scDSum (fun vs H Q E h => ?_) (fun cdv A outer s H vs Q E hr h => ?_)
  · obtain ⟨b, c, m, rfl, _⟩ := h
    rfl
  · obtain ⟨b, c, m, rfl, B, hm, k⟩ := h
    have hr1 : Room 1 _ := hr.mono (by decide)
    refine ⟨_, pss_cons (ps_par (i := 1) (j := 2) rfl sc.nd rfl rfl (by decide) rfl rfl (pa_cons (pe_call0 GN hr1 rfl gN kN bN .nil pass0) (pa_cons pe_str pa_nil)) (by rfl))
      (pss_cons (ps_for PassesOwn.never rfl (pi_range1 (by rfl) T3.range (pa_cons (pe_op op_add pe_int (pe_call GD hr1 rfl gD kD bD .nil pass0 (pa_cons (pv 0) (pa_cons pe_int pa_nil)))) pa_nil)) (pg_name (i := 3) sc.nd rfl (Or.inl rfl))
        (pss_cons (ps_set (i := 4) sc.nd rfl (.inl rfl) (pe_bm PySem.F.plainAttrs_list PySem.F.slot_list_pop PySem.F.type_list_pop mt_popAt (pv 1) (pa_cons (pe_call GD hr1 rfl gD kD bD .nil pass0 (pa_cons (pv 0) (pa_cons (pe_callB call_len_seq (by rfl) T.len PySem.boot_len (pa_cons (pv 1) pa_nil)) pa_nil))) pa_nil)))
        (pss_cons (ps_set (i := 5) sc.nd rfl (.inl rfl) (pe_ix ix_list (pe_lst (pa_cons (pv 4) (pa_cons (pe_call GM hr rfl gM kM bM .nil pass0 (pa_cons (pv 0) pa_nil)) (pa_cons (pv 4) pa_nil)))) (pe_call GD hr1 rfl gD kD bD .nil pass0 (pa_cons (pv 0) (pa_cons pe_int pa_nil))) (fun _ _ => rfl)))
        (pss_one (ps_set (i := 2) sc.nd rfl (.inl rfl) (pe_op op_add_str (pe_op op_add_str (pv 2) (pe_op op_mul01 (pe_ix ix_list (pe_lst (pa_cons pe_str (pa_cons pe_str pa_nil))) (pe_call GD hr1 rfl gD kD bD .nil pass0 (pa_cons (pv 0) (pa_cons pe_int pa_nil))) (fun _ _ => rfl)) (pe_callTy call_int1 (by rfl) T3.int (by decide +kernel) (pa_cons (pe_cmpR op_gt (pv 3) pe_int (nomark _)) pa_nil)))) (pv 5)))))))
      (pss_one (ps_ret (pv 2)))), ?_⟩
    refine ⟨rfl, fun N G0 s0 nN gN0 => ?_⟩
    refine ⟨_, _, rfl, ?_⟩
    have B0 := BagAt.keep B s0
    have Nb : N ≠ b := BagAt.nel B0 gN0
    have Nc : N ≠ c := bag_cells B nN
    refine rb_1p (b := b) (c := c) (H := G0) (n := 4) (i := 0) rfl (by decide) (by decide) m G0 _ (But.refl b G0) B0 (by omega) fun x G1 px s1 B1 => ?_
    obtain ⟨j, rfl, j1, j4⟩ := px
    refine ⟨(j : Int), rfl, by omega, by omega, ?_⟩
    rw [show ((j : Nat) : Int).toNat = j by omega]
    have gN1 := s1 _ _ gN0 Nb
    refine for_range (lo := 0) (n := j) (fun i σ G => ∃ (rest ws : List Str) (found : Str) (v3 v4 v5 : Option V), σ = [some (.ref b), some (.ref N), some (.str found), v3, v4, v5] ∧ But b H G ∧ BagAt c G b (m + 1 + 5 * i) ∧ G N = some (.lst (rest.map V.str)) ∧ rest.length = 6 - i ∧ rest.Nodup ∧ (∀ t ∈ rest, t ∈ namesL) ∧ SumI i ws found rest)
      ⟨namesL, [], "", none, none, none, rfl, (but_same s0).trans s1, B1, gN1, rfl, by decide +kernel, fun t h => h, ⟨by decide +kernel, fun w h => (nomatch h), rfl, rfl, List.nodup_nil, fun t h => (nomatch h), by decide +kernel⟩⟩ ?_ ?_
    · rintro i σ G hi ⟨rest, ws, found, v3, v4, v5, rfl, sG, BG, gN, rl, rn, rm, hS⟩
      refine gname_to rfl ?_
      dsimp only
      refine ⟨_, rfl, .inl ⟨rfl, _, SqL.of gN⟩, ?_⟩
      refine rb_draw (b := b) (c := c) (i := 0) (pn := fun n => n = (rest.map V.str).length) rfl (rb_len (H := G) (v := 1) rfl gN Nb) (fun n e => by
        rw [List.length_map] at e
        have e30 : 1000 ≤ (10 : Nat) ^ 30 := by decide
        omega) (m + 1 + 5 * i) G _ (But.refl b G) BG (by omega) fun x G2 px s2 B2 => ?_
      obtain ⟨d, rfl, n, rfl, hd⟩ := px
      rw [List.length_map] at hd
      obtain ⟨name, hname⟩ : ∃ t, rest[d]? = some t := ⟨_, List.getElem?_eq_getElem hd⟩
      refine ⟨N, rest.map V.str, (d : Int), d, .str name, rfl, rfl, s2 _ _ gN Nb, by omega, by omega, seq_at (by rw [List.length_map]; exact hd), by rw [List.getElem?_map, hname]; rfl, ?_⟩
      refine gname_to rfl ?_
      dsimp only
      rw [erase_map]
      have B3 : BagAt c (upd G2 N (.lst ((rest.eraseIdx d).map V.str))) b (m + 1 + 5 * i + (0 + 1)) := bag_write B2 Nb Nc
      have g3 : upd G2 N (.lst ((rest.eraseIdx d).map V.str)) N = some (.lst ((rest.eraseIdx d).map V.str)) := upd_same
      have s3 : But b H (upd G2 N (.lst ((rest.eraseIdx d).map V.str))) := but_write (sG.trans s2) nN
      generalize upd G2 N (.lst ((rest.eraseIdx d).map V.str)) = G3 at B3 g3 s3 ⊢
      have pt := rb_pick (n := 3) (K := K) (rba_cons (b := b) (c := c) (σ := [some (.ref b), some (.ref N), some (.str found), some (.int (0 + (i : Nat))), some (.str name), v5]) (H := G3) (rb_v (i := 4) rfl) (rba_cons (rb_tx (k := 2) (p := numP) (i := 0) rfl) (rba_cons (rb_v (i := 4) rfl) rba_nil))) (fun xs h => by
        obtain ⟨y1, r1, rfl, rfl, y2, r2, rfl, h2, y3, r3, rfl, rfl, rfl⟩ := h
        rfl) (by decide) (rb_d (n := 3) (i := 0) rfl (by decide) (by decide))
      refine pt _ G3 _ (But.refl b G3) B3 (by omega) fun x G4 px s4 B4 => ?_
      obtain ⟨tm, rfl, ht⟩ : ∃ t : Str, x = .str t ∧ (t = name ∨ numP t) := by
        obtain ⟨xs, ⟨y1, r1, rfl, rfl, y2, r2, rfl, ⟨t, rfl, ht⟩, y3, r3, rfl, rfl, rfl⟩, hx⟩ := px
        rcases List.mem_cons.mp hx with e | hx
        · exact ⟨_, e, .inl rfl⟩
        rcases List.mem_cons.mp hx with e | hx
        · exact ⟨_, e, .inr ht⟩
        · exact ⟨_, List.mem_singleton.mp hx, .inl rfl⟩
      refine gname_to rfl ?_
      dsimp only
      have nm := List.mem_of_getElem? hname
      obtain ⟨tw, tl30⟩ := term_wo (rest := rest) (rm name nm) ht
      have fl := hS.fl
      have gp : ∀ g : Str, (i = 0 ∧ g = Str.empty) ∨ (0 < i ∧ (g = " + " ∨ g = " - ")) → g.length ≤ 3 := fun g h => by
        rcases h with ⟨_, rfl⟩ | ⟨_, rfl | rfl⟩
        · decide
        · exact Nat.le_of_eq sgn_tl.2.2.1
        · exact Nat.le_of_eq sgn_tl.2.2.2
      have len_add : ∀ x y : Str, (x ++ y).length = x.length + y.length := fun x y => by
        show (TL.tl (x ++ y)).length = (TL.tl x).length + (TL.tl y).length
        rw [TL.tl_append, List.length_append]
      have fnd := rs_cat (rs_cat (b := b) (c := c) (σ := [some (.ref b), some (.ref N), some (.str found), some (.int (0 + (i : Nat))), some (.str name), some (.str tm)]) (H := G4) (p1 := fun x => x = found) ((rb_v (i := 2) rfl).mono fun x e => ⟨_, e, rfl⟩) (rb_gap (K := K) (i := i) rfl rfl) (fun x y e h => by have := gp y h; subst e; omega)) (p2 := fun x => x = tm) ((rb_v (i := 5) rfl).mono fun x e => ⟨_, e, rfl⟩) (fun x y ⟨x1, x2, e1, e2, e3⟩ e => by
        have := gp x2 e2
        subst e e1 e3
        rw [len_add]
        omega)
      refine fnd _ G4 _ (But.refl b G4) B4 (by omega) fun x G5 px s5 B5 => ?_
      obtain ⟨y, rfl, u, t, ⟨f1, g, rfl, hg, rfl⟩, rfl, rfl⟩ := px
      refine gname_to rfl ?_
      dsimp only
      have g5 := s5 _ _ (s4 _ _ g3 Nb) Nb
      have s5' := s3.trans (s4.trans s5)
      have em := erase_mem rn hname
      have el : (rest.eraseIdx d).length = 6 - (i + 1) := by rw [List.length_eraseIdx, if_pos hd, rl]; omega
      have en : (rest.eraseIdx d).Nodup := List.Nodup.sublist (List.eraseIdx_sublist _ _) rn
      have emm : ∀ t ∈ rest.eraseIdx d, t ∈ namesL := fun t h => rm t (em t h).1
      have BB : BagAt c G5 b (m + 1 + 5 * (i + 1)) := BagAt.mono B5 (by omega)
      rcases hg with ⟨rfl, rfl⟩ | ⟨i0, hg⟩
      · have wl0 := hS.len
        have w0 : ws = [] := List.length_eq_zero_iff.mp (by omega)
        subst w0
        exact ⟨_, _, _, _, _, _, rfl, s5', BB, g5, el, en, emm, hS.first nm rm ht em⟩
      · rcases hg with rfl | rfl
        · exact ⟨_, _, _, _, _, _, rfl, s5', BB, g5, el, en, emm, hS.next i0 nm rm ht em (.inl rfl) sgn_tl.1 sgn_tl.2.2.1⟩
        · exact ⟨_, _, _, _, _, _, rfl, s5', BB, g5, el, en, emm, hS.next i0 nm rm ht em (.inr rfl) sgn_tl.2.1 sgn_tl.2.2.2⟩
    · rintro σ G ⟨rest, ws, found, v3, v4, v5, rfl, sG, BG, gN, rl, rn, rm, hS⟩
      exact ⟨_, rfl, k found G (hS.done (by omega) j4) sG (BagAt.mono BG (by omega))⟩
end
end K14

set_option Elab.async false
set_option linter.all false
set_option maxRecDepth 100000
set_option maxHeartbeats 8000000
/-! k14, the law: drawn tests, the mathematics -/
namespace K14
open PySem L2 K14D
/-- a part of a test without its "not" -/
def rawP (s : Str) : Prop := ∃ g, TL.tl s = wl g ∧ (∀ w ∈ g, Wo w) ∧ g ≠ [] ∧ partB g = true ∧ g.take 1 ≠ [("not" : Str)] ∧ s.length ≤ 44
def partP (s : Str) : Prop := ∃ g, TL.tl s = wl g ∧ (∀ w ∈ g, Wo w) ∧ g ≠ [] ∧ goodP g = true ∧ s.length ≤ 48
theorem add_len (x y : Str) : (x ++ y).length = x.length + y.length := by
  show (TL.tl (x ++ y)).length = (TL.tl x).length + (TL.tl y).length
  rw [TL.tl_append, List.length_append]
theorem good_nots {g : List Str} (h : ∀ w ∈ g, Wo w) : goodP g = partB (nots g) := partD_some "take" h
theorem not_wo : Wo "not" ∧ Wo "and" ∧ Wo "if" ∧ TL.tl ("not " : Str) = TL.tl ("not" : Str) ++ [32] ∧ ("not " : Str).length = 4 ∧ TL.tl ("if " : Str) = TL.tl ("if" : Str) ++ [32] ∧ ("if " : Str).length = 3 := by
  have h : (∀ c ∈ TL.tl ("not" : Str), c < 128 ∧ c ≠ 10) ∧ (∀ c ∈ TL.tl ("and" : Str), c < 128 ∧ c ≠ 10) ∧ (∀ c ∈ TL.tl ("if" : Str), c < 128 ∧ c ≠ 10) := by decide +kernel
  exact ⟨⟨h.1, by decide +kernel, by decide +kernel⟩, ⟨h.2.1, by decide +kernel, by decide +kernel⟩, ⟨h.2.2, by decide +kernel, by decide +kernel⟩, by decide +kernel⟩
theorem part_of_raw {s pre : Str} (h : rawP s) (hp : pre = "" ∨ pre = "not ") : partP (pre ++ s) := by
  obtain ⟨g, e, hw, ne, pb, nt, l⟩ := h
  have n0 : nots g = g := by unfold nots; rw [if_neg nt]
  rcases hp with rfl | rfl
  · refine ⟨g, ?_, hw, ne, by rw [good_nots hw, n0]; exact pb, ?_⟩
    · rw [TL.tl_append, show TL.tl ("" : Str) = [] by decide +kernel, List.nil_append]
      exact e
    · rw [add_len, show ("" : Str).length = 0 by decide +kernel]
      omega
  · have hw2 : ∀ w ∈ ("not" : Str) :: g, Wo w := fun w q => by
      rcases List.mem_cons.mp q with q | q
      · rw [q]; exact not_wo.1
      · exact hw w q
    refine ⟨("not" : Str) :: g, ?_, hw2, by simp, ?_, ?_⟩
    · rw [TL.tl_append, not_wo.2.2.2.1, e, show ("not" : Str) :: g = [("not" : Str)] ++ g from rfl, wl_app (by simp) ne]
      show _ = TL.tl ("not" : Str) ++ (32 :: wl g)
      simp [List.append_assoc]
    · rw [good_nots hw2]
      have n1 : nots (("not" : Str) :: g) = g := by unfold nots; exact if_pos rfl
      rw [n1]
      exact pb
    · rw [add_len, not_wo.2.2.2.2.1]
      omega
def woB (w : Str) : Bool := (TL.tl w).all (fun c => decide (c < 128 ∧ c ≠ 10 ∧ c ≠ 32)) && decide (w.length ≤ 600)
theorem wo_of {w : Str} (h : woB w = true) : Wo w := by
  unfold woB at h
  obtain ⟨a, b⟩ := Bool.and_eq_true_iff.mp h
  have a := fun c hc => of_decide_eq_true (List.all_eq_true.mp a c hc)
  exact ⟨fun c hc => ⟨(a c hc).1, (a c hc).2.1⟩, fun z => (a 32 z).2.2 rfl, of_decide_eq_true b⟩
def rawB (s : Str) (g : List Str) : Bool := decide (TL.tl s = wl g) && (g.all woB && (decide (g ≠ []) && (partB g && (decide (g.take 1 ≠ [("not" : Str)]) && decide (s.length ≤ 44)))))
theorem raw_of {s : Str} {g : List Str} (h : rawB s g = true) : rawP s := by
  unfold rawB at h
  obtain ⟨a, h⟩ := Bool.and_eq_true_iff.mp h
  obtain ⟨b, h⟩ := Bool.and_eq_true_iff.mp h
  obtain ⟨c, h⟩ := Bool.and_eq_true_iff.mp h
  obtain ⟨d, h⟩ := Bool.and_eq_true_iff.mp h
  obtain ⟨e, h⟩ := Bool.and_eq_true_iff.mp h
  exact ⟨g, of_decide_eq_true a, fun w q => wo_of (List.all_eq_true.mp b w q), of_decide_eq_true c, d, of_decide_eq_true e, of_decide_eq_true h⟩
theorem raw_fixB : (placesAll.all fun p => rawB ("used " ++ p) ["used", p] && (rawB ("ahead used " ++ p) ["ahead", "used", p] && rawB (p ++ " is bin") [p, "is", "bin"])) = true := by decide +kernel
theorem raw_fix {p : Str} (h : p ∈ placesAll) : rawP ("used " ++ p) ∧ rawP ("ahead used " ++ p) ∧ rawP (p ++ " is bin") := by
  have z := List.all_eq_true.mp raw_fixB p h
  obtain ⟨a, z⟩ := Bool.and_eq_true_iff.mp z
  obtain ⟨b, z⟩ := Bool.and_eq_true_iff.mp z
  exact ⟨raw_of a, raw_of b, raw_of z⟩
theorem sum_words : sumB [("used" : Str)] = false ∧ sumB [("ahead" : Str)] = false ∧ sumB [("not" : Str)] = false ∧ sumB [("bin" : Str)] = false ∧ (∀ c ∈ cmps, c ≠ "used") := by decide +kernel
theorem cmp_signs : ∀ c ∈ cmps, woB c = true ∧ TL.tl (" " ++ c ++ " " : Str) = [32] ++ (TL.tl c ++ [32]) ∧ c.length ≤ 2 := by decide +kernel
theorem cmp_list : [(" < " : Str), " <= ", " is "] = cmps.map fun c => (" " ++ c ++ " " : Str) := by decide +kernel
theorem raw_comp {x y c : Str} (hx : Wo x) (hy : Wo y) (sx : sumB [x] = true) (sy : sumB [y] = true) (hn : x ≠ y) (hc : c ∈ cmps) (hl : x.length + y.length ≤ 36) : rawP (Txt.join (" " ++ c ++ " ") [x, y]) := by
  obtain ⟨s1, s2, s3, s4, s5⟩ := sum_words
  obtain ⟨c1, c2, c3⟩ := cmp_signs c hc
  have xn : ∀ t : Str, sumB [t] = false → x ≠ t := fun t h z => by rw [z, h] at sx; cases sx
  have yn : ∀ t : Str, sumB [t] = false → y ≠ t := fun t h z => by rw [z, h] at sy; cases sy
  have e : TL.tl (Txt.join (" " ++ c ++ " ") [x, y]) = wl [x, c, y] := by
    rw [TL.join_eq, TL.tl_join, c2]
    show TL.tl x ++ ([32] ++ (TL.tl c ++ [32]) ++ TL.tl y) = TL.tl x ++ ([32] ++ (TL.tl c ++ ([32] ++ TL.tl y)))
    simp [List.append_assoc]
  refine ⟨[x, c, y], e, fun w hw => ?_, by simp, ?_, fun z => xn _ s3 (List.cons.inj z).1, ?_⟩
  · rcases List.mem_cons.mp hw with q | hw
    · rw [q]; exact hx
    rcases List.mem_cons.mp hw with q | hw
    · rw [q]; exact wo_of c1
    · rw [List.mem_singleton.mp hw]; exact hy
  · unfold partB
    rw [if_neg (fun z => ?_), if_neg (fun z => ?_), if_neg (fun z => ?_)]
    · exact Bool.and_eq_true_iff.mpr ⟨sx, sy⟩
    · rcases z with z | z | z
      · exact z rfl
      · exact hn z
      · exact z hc
    · have z : [c, y] = [("is" : Str), "bin"] := z
      exact yn _ s4 (List.cons.inj (List.cons.inj z).2).1
    · rcases z with z | z
      · have z : [x] = [("used" : Str)] := z
        exact xn _ s1 (List.cons.inj z).1
      · have z : [x, c] = [("ahead" : Str), "used"] := z
        exact xn _ s2 (List.cons.inj z).1
  · have l : (Txt.join (" " ++ c ++ " ") [x, y]).length = (wl [x, c, y]).length := by rw [← e]; rfl
    rw [l]
    show (TL.tl x ++ ([32] ++ (TL.tl c ++ ([32] ++ TL.tl y)))).length ≤ 44
    simp only [List.length_append]
    have a : (TL.tl x).length = x.length := rfl
    have b : (TL.tl y).length = y.length := rfl
    have d : (TL.tl c).length = c.length := rfl
    simp only [List.length_cons, List.length_nil]
    omega
/-- parts with "and" between -/
def inter : List (List Str) → List Str
  | [] => []
  | [g] => g
  | g :: h :: r => g ++ ("and" : Str) :: inter (h :: r)
theorem inter_ne : ∀ {gs : List (List Str)}, gs ≠ [] → (∀ g ∈ gs, g ≠ []) → inter gs ≠ []
  | [], h, _ => absurd rfl h
  | [g], _, h => h g (by simp)
  | g :: h :: r, _, _ => by
    show g ++ ("and" : Str) :: inter (h :: r) ≠ []
    simp
theorem inter_wo : ∀ {gs : List (List Str)}, (∀ g ∈ gs, ∀ w ∈ g, Wo w) → ∀ w ∈ inter gs, Wo w
  | [], _, w, hw => nomatch hw
  | [g], h, w, hw => h g (by simp) w hw
  | g :: k :: r, h, w, hw => by
    rcases List.mem_append.mp (show w ∈ g ++ ("and" : Str) :: inter (k :: r) from hw) with q | q
    · exact h g (by simp) w q
    · rcases List.mem_cons.mp q with q | q
      · rw [q]; exact not_wo.2.1
      · exact inter_wo (fun g hg => h g (List.mem_cons_of_mem _ hg)) w q
theorem and_tl : TL.tl (" and " : Str) = [32] ++ (TL.tl ("and" : Str) ++ [32]) := by decide +kernel
theorem inter_wl : ∀ {gs : List (List Str)}, (∀ g ∈ gs, g ≠ []) → TL.joinL (TL.tl (" and " : Str)) (gs.map wl) = wl (inter gs)
  | [], _ => rfl
  | [g], _ => rfl
  | g :: h :: r, hn => by
    have ih := inter_wl (gs := h :: r) fun q hq => hn q (List.mem_cons_of_mem _ hq)
    have ne := inter_ne (gs := h :: r) (by simp) fun q hq => hn q (List.mem_cons_of_mem _ hq)
    show wl g ++ (TL.tl (" and " : Str) ++ TL.joinL (TL.tl (" and " : Str)) ((h :: r).map wl)) = wl (g ++ ("and" : Str) :: inter (h :: r))
    rw [ih, wl_app (hn g (by simp)) (by simp), show ("and" : Str) :: inter (h :: r) = [("and" : Str)] ++ inter (h :: r) from rfl, wl_app (by simp) ne, and_tl]
    show wl g ++ ([32] ++ (TL.tl ("and" : Str) ++ [32]) ++ wl (inter (h :: r))) = wl g ++ (32 :: (TL.tl ("and" : Str) ++ (32 :: wl (inter (h :: r)))))
    simp [List.append_assoc]
theorem grp_last : ∀ (r cur : List Str), ("and" : Str) ∉ r → grp cur r = [cur ++ r]
  | [], cur, _ => by rw [List.append_nil]; rfl
  | [y], cur, _ => rfl
  | y :: z :: r, cur, h => by
    show (if y = "and" then cur :: grp [z] r else grp (cur ++ [y]) (z :: r)) = _
    rw [if_neg (fun q => h (by rw [q]; simp)), grp_last (z :: r) (cur ++ [y]) (fun q => h (List.mem_cons_of_mem _ q)), List.append_assoc]
    rfl
theorem grp_more (z : Str) (t : List Str) : ∀ (r cur : List Str), ("and" : Str) ∉ r → grp cur (r ++ ("and" : Str) :: z :: t) = (cur ++ r) :: grp [z] t
  | [], cur, _ => by
    show (if ("and" : Str) = "and" then cur :: grp [z] t else _) = _
    rw [if_pos rfl, List.append_nil]
  | y :: r, cur, h => by
    have ih := grp_more z t r (cur ++ [y]) fun q => h (List.mem_cons_of_mem _ q)
    obtain ⟨a, q, e⟩ : ∃ a q, r ++ ("and" : Str) :: z :: t = a :: q := by
      cases r with
      | nil => exact ⟨_, _, rfl⟩
      | cons a r => exact ⟨_, _, rfl⟩
    show grp cur (y :: (r ++ ("and" : Str) :: z :: t)) = _
    rw [e] at ih ⊢
    show (if y = "and" then cur :: grp [a] q else grp (cur ++ [y]) (a :: q)) = _
    rw [if_neg (fun q => h (by rw [q]; simp)), ih, List.append_assoc]
    rfl
theorem grp_inter : ∀ {gs : List (List Str)}, gs ≠ [] → (∀ g ∈ gs, g ≠ [] ∧ ("and" : Str) ∉ g) → ∃ w0 rest, inter gs = w0 :: rest ∧ grp [w0] rest = gs
  | [], h, _ => absurd rfl h
  | [g], _, h => by
    obtain ⟨ne, na⟩ := h g (by simp)
    cases g with
    | nil => exact absurd rfl ne
    | cons w r => exact ⟨w, r, rfl, grp_last r [w] fun q => na (List.mem_cons_of_mem _ q)⟩
  | g :: k :: t, _, h => by
    obtain ⟨ne, na⟩ := h g (by simp)
    obtain ⟨z, q, e1, e2⟩ := grp_inter (gs := k :: t) (by simp) fun g hg => h g (List.mem_cons_of_mem _ hg)
    cases g with
    | nil => exact absurd rfl ne
    | cons w r =>
      refine ⟨w, r ++ ("and" : Str) :: z :: q, ?_, ?_⟩
      · show (w :: r) ++ ("and" : Str) :: inter (k :: t) = _
        rw [e1]
        rfl
      · rw [grp_more z q r [w] fun q => na (List.mem_cons_of_mem _ q), e2]
        rfl
theorem wl_ok : ∀ {ws : List Str}, (∀ w ∈ ws, Wo w) → ∀ c ∈ wl ws, okS c
  | [], _, c, hc => nomatch hc
  | [w], h, c, hc => (h w (by simp)).ok c hc
  | w :: y :: r, h, c, hc => by
    have hc : c ∈ TL.tl w ++ ([32] ++ wl (y :: r)) := hc
    rcases List.mem_append.mp hc with q | q
    · exact (h w (by simp)).ok c q
    rcases List.mem_append.mp q with q | q
    · rw [List.mem_singleton.mp q]; exact ⟨by decide, by decide⟩
    · exact wl_ok (fun w hw => h w (List.mem_cons_of_mem _ hw)) c q
/-- a drawn test -/
def testP (s : Str) : Prop := ∃ gs, gs ≠ [] ∧ gs.length ≤ 4 ∧ (∀ g ∈ gs, g ≠ [] ∧ (∀ w ∈ g, Wo w) ∧ goodP g = true) ∧ TL.tl s = wl (inter gs) ∧ s.length ≤ 210
theorem ifB_true {ws : List Str} {gs : List (List Str)} (hw : ∀ w ∈ ws, Wo w) (hd : ws.drop 1 = inter gs) (h0 : gs ≠ []) (h4 : gs.length ≤ 4) (hg : ∀ g ∈ gs, g ≠ [] ∧ (∀ w ∈ g, Wo w) ∧ goodP g = true) : ifB ws = true := by
  obtain ⟨w0, rest, e1, e2⟩ := grp_inter h0 fun g q => ⟨(hg g q).1, (part_clean (hg g q).2.1 (hg g q).2.2).2⟩
  rw [e1] at hd
  obtain ⟨m1, _⟩ := map_split (tail_tl hd hw) fun g q => by
    rw [e2] at q
    exact ⟨(hg g q).1, (hg g q).2.1⟩
  rw [e2] at m1
  unfold ifB
  rw [filter_all (fun p => goodP (Txt.split p " ")), ← List.length_map (as := tailP ws) (f := fun p => Txt.split p " "), show (tailP ws).all (fun p => goodP (Txt.split p " ")) = ((tailP ws).map fun p => Txt.split p " ").all goodP by rw [List.all_map]; rfl, m1]
  rw [decide_eq_true (by omega : gs.length < 5), Bool.true_and]
  exact List.all_eq_true.mpr fun g q => (hg g q).2.2
/-- the line of a drawn test -/
theorem if_line {s : Str} (h : testP s) : Ln ("if " ++ s) ∧ lineB ("if " ++ s) = true ∧ wd (Txt.split ("if " ++ s) " ") 0 = "if" ∧ ("if " ++ s).length ≤ 213 := by
  obtain ⟨gs, h0, h4, hg, e, l⟩ := h
  have ne := inter_ne h0 fun g q => (hg g q).1
  have wo := inter_wo fun g q => (hg g q).2.1
  have e2 : TL.tl ("if " ++ s) = wl (("if" : Str) :: inter gs) := by
    rw [TL.tl_append, not_wo.2.2.2.2.2.1, e, show ("if" : Str) :: inter gs = [("if" : Str)] ++ inter gs from rfl, wl_app (by simp) ne]
    show _ = TL.tl ("if" : Str) ++ (32 :: wl (inter gs))
    simp [List.append_assoc]
  have wo2 : ∀ w ∈ ("if" : Str) :: inter gs, Wo w := fun w q => by
    rcases List.mem_cons.mp q with q | q
    · rw [q]; exact not_wo.2.2.1
    · exact wo w q
  have sp := split_words e2 (by simp) wo2
  have ll : ("if " ++ s).length ≤ 213 := by rw [add_len, not_wo.2.2.2.2.2.2]; omega
  have w0 : wd (("if" : Str) :: inter gs) 0 = "if" := rfl
  refine ⟨⟨fun c hc => ?_, by omega⟩, ?_, by rw [sp]; rfl, ll⟩
  · rw [TL.tl_append, not_wo.2.2.2.2.2.1, e] at hc
    have sgn : ∀ c ∈ wl (inter gs), okS c := wl_ok wo
    rcases List.mem_append.mp hc with q | q
    · have h : ∀ c ∈ TL.tl ("if" : Str) ++ [32], c < 128 ∧ c ≠ 10 := by decide +kernel
      exact h c q
    · exact sgn c q
  · unfold lineB
    rw [sp]
    dsimp only
    rw [if_pos w0]
    exact ifB_true wo2 rfl h0 h4 hg
end K14

set_option Elab.async false
set_option linter.all false
set_option maxRecDepth 100000
set_option maxHeartbeats 8000000
/-! k14, the law: a drawn test -/
namespace K14
open PySem L2 K14D
abbrev sDTest : Stmt := top 67
abbrev nmDTest : List Str := ["_law_bag_here", "_law_parts", "_law_names_here", "_law_turn", "_law_one", "_law_place", "_law_two", "_law_pool", "_law_sign"]
theorem scDTest : FnScope nmDTest ["_law_bag_here"] (defScope sDTest) := ⟨rfl, rfl, rfl, by decide +kernel, rfl, by decide +kernel, by decide +kernel⟩
section
variable {P : Program} {w : World} {K : PySem.W.Frag} {mg : Str → Option Value} {base : Heap}
theorem at_map {l : List Str} {k : Nat} {y : V} (h : (l.map V.str)[k]? = some y) : ∃ t, l[k]? = some t ∧ y = V.str t := by
  rw [List.getElem?_map] at h
  cases e : l[k]? with
  | none => rw [e] at h; cases h
  | some t => rw [e] at h; exact ⟨t, rfl, (Option.some.inj h).symm⟩
theorem none_back {b q : Addr} {H G : Hp} (s : But b H G) (n : G q = none) (nb : q ≠ b) : H q = none := by
  cases e : H q with
  | none => rfl
  | some o => rw [s q o e nb] at n; cases n
theorem rb_other {b c N : Addr} {σ : L2.St} {H : Hp} {d1 : Nat} (h0 : σ[0]? = some (some (.ref b))) (h2 : σ[2]? = some (some (.ref N))) (h4 : σ[4]? = some (some (.int (d1 : Nat)))) (gN : H N = some (.lst (namesL.map V.str))) (Nb : N ≠ b) (h1 : d1 < 6) :
    RB b c σ H 1 (tOp (rIxL K) (tVar 2) (tOp (rI (fun x j => 0 < j) fun i j => V.int (i % j)) (tOp (rI0 fun i j => V.int (i + j)) (tOp (rI0 fun i j => V.int (i + j)) (tVar 4) (tC (.int 1))) (tCall spDraw [] E0 (tCons (tVar 0) (tCons (tC (.int 5)) tNil)))) (tC (.int 6))))
      (TxP fun t => ∃ e, e < 6 ∧ e ≠ d1 ∧ namesL[e]? = some t) := fun m H' Q s B l q => by
  refine ⟨_, h2, _, h4, _, _, rfl, rfl, ?_⟩
  refine rb_d (b := b) (c := c) (H := H) (n := 5) (i := 0) h0 (by decide) (by decide) m H' _ s B l fun x G px sG BG => ?_
  obtain ⟨d, rfl, hd⟩ := px
  refine ⟨_, _, rfl, rfl, _, _, rfl, rfl, (by show (0 : Int) < 6; decide), ?_⟩
  have hl : (d1 + 1 + d) % 6 < namesL.length := Nat.mod_lt _ (by decide)
  have ie : ((d1 : Int) + 1 + (d : Int)) % 6 = (((d1 + 1 + d) % 6 : Nat) : Int) := by omega
  show rIxL K (.ref N) (.int (((d1 : Int) + 1 + (d : Int)) % 6)) G Q
  rw [ie]
  refine ⟨N, _, _, _, rfl, rfl, SqL.of (sG _ _ (s _ _ gN Nb) Nb), atI_nat (j := (d1 + 1 + d) % 6) (v := .str namesL[(d1 + 1 + d) % 6]) (by rw [List.getElem?_map, List.getElem?_eq_getElem hl]; rfl), ?_⟩
  exact q _ G ⟨_, rfl, (d1 + 1 + d) % 6, hl, by omega, List.getElem?_eq_getElem hl⟩ sG BG
theorem sum_name : (∀ t ∈ namesL, sumB [t] = true) ∧ namesL.Nodup := by decide +kernel
theorem sum_num {x : Str} (h : numB x = true) : sumB [x] = true := by
  have nx : x ∉ namesL := fun z => by rw [names_num x z] at h; cases h
  show (true && (true && (if x ∈ namesL then _ else numB x && true))) = true
  rw [if_neg nx, h]
  rfl
theorem two_ok {d1 : Nat} {n1 t : Str} (hn : namesL[d1]? = some n1) (h : (∃ e, e < 6 ∧ e ≠ d1 ∧ namesL[e]? = some t) ∨ numP t) : Wo t ∧ sumB [t] = true ∧ t ≠ n1 ∧ t.length ≤ 30 := by
  have m1 := List.mem_of_getElem? hn
  rcases h with ⟨e, _, ne, h⟩ | h
  · have m2 := List.mem_of_getElem? h
    have z := names_wo t m2
    refine ⟨z.1, sum_name.1 t m2, fun q => ?_, by omega⟩
    subst q
    obtain ⟨a, ea⟩ := List.getElem?_eq_some_iff.mp h
    obtain ⟨b, eb⟩ := List.getElem?_eq_some_iff.mp hn
    exact ne ((List.getElem_inj sum_name.2).mp (ea.trans eb.symm))
  · refine ⟨h.2.1, sum_num h.1, fun q => ?_, h.2.2⟩
    have z := names_num n1 m1
    rw [← q, h.1] at z
    cases z
theorem parts_text {ps : List Str} (h0 : ps ≠ []) (h4 : ps.length ≤ 4) (hp : ∀ t ∈ ps, partP t) : testP (Txt.join " and " ps) := by
  have ch : ∀ qs : List Str, (∀ t ∈ qs, partP t) → ∃ gs : List (List Str), qs.map TL.tl = gs.map wl ∧ (∀ g ∈ gs, g ≠ [] ∧ (∀ w ∈ g, Wo w) ∧ goodP g = true) ∧ gs.length = qs.length := by
    intro qs
    induction qs with
    | nil => intro _; exact ⟨[], rfl, fun g h => (nomatch h), rfl⟩
    | cons t qs ih =>
      intro h
      obtain ⟨gs, a, b, c⟩ := ih fun t ht => h t (List.mem_cons_of_mem _ ht)
      obtain ⟨g, e, hw, ne, gp, _⟩ := h t (by simp)
      refine ⟨g :: gs, by rw [List.map_cons, List.map_cons, e, a], fun g2 h2 => ?_, by rw [List.length_cons, List.length_cons, c]⟩
      rcases List.mem_cons.mp h2 with q | q
      · rw [q]; exact ⟨ne, hw, gp⟩
      · exact b g2 q
  obtain ⟨gs, a, b, e⟩ := ch ps hp
  have l1 : ∀ qs : List Str, (∀ t ∈ qs, partP t) → (TL.joinL (TL.tl (" and " : Str)) (qs.map TL.tl)).length ≤ 53 * qs.length := by
    have five : (TL.tl (" and " : Str)).length = 5 := by decide +kernel
    intro qs
    induction qs with
    | nil => intro _; exact Nat.zero_le _
    | cons t qs ih =>
      intro h
      have ih := ih fun t ht => h t (List.mem_cons_of_mem _ ht)
      obtain ⟨g, _, _, _, _, l⟩ := h t (by simp)
      have l : (TL.tl t).length ≤ 48 := l
      cases qs with
      | nil => show (TL.tl t).length ≤ 53 * 1; omega
      | cons u r =>
        show (TL.tl t ++ (TL.tl (" and " : Str) ++ TL.joinL (TL.tl (" and " : Str)) ((u :: r).map TL.tl))).length ≤ 53 * ((u :: r).length + 1)
        rw [List.length_append, List.length_append, five]
        omega
  have te : TL.tl (Txt.join " and " ps) = wl (inter gs) := by
    rw [TL.join_eq, TL.tl_join, a]
    exact inter_wl fun g h => (b g h).1
  refine ⟨gs, fun z => h0 (by rw [z] at e; exact List.length_eq_zero_iff.mp e.symm), by omega, b, te, ?_⟩
  have z := l1 ps hp
  have ll : (Txt.join " and " ps).length = (TL.joinL (TL.tl (" and " : Str)) (ps.map TL.tl)).length := by
    rw [← TL.tl_join, ← TL.join_eq]
    rfl
  -- four parts: 4 * 48 + 3 * 5
  have l2 : ∀ qs : List Str, qs ≠ [] → (∀ t ∈ qs, partP t) → (TL.joinL (TL.tl (" and " : Str)) (qs.map TL.tl)).length + 5 ≤ 53 * qs.length := by
    have five : (TL.tl (" and " : Str)).length = 5 := by decide +kernel
    intro qs
    induction qs with
    | nil => intro h; exact absurd rfl h
    | cons t qs ih =>
      intro _ h
      obtain ⟨g, _, _, _, _, l⟩ := h t (by simp)
      have l : (TL.tl t).length ≤ 48 := l
      cases qs with
      | nil => show (TL.tl t).length + 5 ≤ 53 * 1; omega
      | cons u r =>
        have ih := ih (by simp) fun t ht => h t (List.mem_cons_of_mem _ ht)
        show (TL.tl t ++ (TL.tl (" and " : Str) ++ TL.joinL (TL.tl (" and " : Str)) ((u :: r).map TL.tl))).length + 5 ≤ 53 * ((u :: r).length + 1)
        rw [List.length_append, List.length_append, five]
        omega
  have z2 := l2 ps h0 hp
  omega
theorem ok_dtest {f fD fN fM fP : Addr} {fd fdD fdN fdM fdP : FuncData} (F : Fun K "_law_test" "_law_test" sDTest f fd) (T : TxtN mg) (T3 : TxtS3 mg)
    (GD : FnOk P w K mg base CX0 1 fD fdD ["_law_bag_here", "_law_limit"] spDraw) (kD : PySem.W.keepIn K (.ref fD) = true) (bD : Binds K fdD ["_law_bag_here", "_law_limit"] []) (gD : mg "_law_draw" = some (.ref fD))
    (GN : FnOk P w K mg base CX0 1 fN fdN [] (spFresh namesL)) (kN : PySem.W.keepIn K (.ref fN) = true) (bN : Binds K fdN [] []) (gN : mg "_law_names" = some (.ref fN))
    (GP : FnOk P w K mg base CX0 1 fP fdP [] (spList placesAll)) (kP : PySem.W.keepIn K (.ref fP) = true) (bP : Binds K fdP [] []) (gP : mg "_law_places" = some (.ref fP))
    (GM : FnOk P w K mg base CX0 2 fM fdM ["_law_bag_here"] (spTx 2 numP)) (kM : PySem.W.keepIn K (.ref fM) = true) (bM : Binds K fdM ["_law_bag_here"] []) (gM : mg "_law_number" = some (.ref fM)) : FnOk P w K mg base CX0 3 f fd ["_law_bag_here"] (spTx 45 testP) := by
  have sc := scDTest
  refine F.ok scDTest (fun vs H Q E h => ?_) (fun cdv A outer s H vs Q E hr h => ?_)
  · obtain ⟨b, c, m, rfl, _⟩ := h
    rfl
  · obtain ⟨b, c, m, rfl, B, hm, k⟩ := h
    have hr1 : Room 1 _ := hr.mono (by decide)
    refine ⟨_, pss_cons (ps_par (i := 1) (j := 2) rfl sc.nd rfl rfl (by decide) rfl rfl (pa_cons (pe_lst pa_nil) (pa_cons (pe_call0 GN hr1 rfl gN kN bN .nil pass0) pa_nil)) (by rfl))
      (pss_cons (ps_for PassesOwn.never rfl (pi_range1 (by rfl) T3.range (pa_cons (pe_op op_add pe_int (pe_call GD hr1 rfl gD kD bD .nil pass0 (pa_cons (pv 0) (pa_cons pe_int pa_nil)))) pa_nil)) (pg_name (i := 3) sc.nd rfl (Or.inl rfl))
        (pss_cons (ps_par (i := 4) (j := 5) rfl sc.nd rfl rfl (by decide) rfl rfl (pa_cons (pe_call GD hr1 rfl gD kD bD .nil pass0 (pa_cons (pv 0) (pa_cons pe_int pa_nil))) (pa_cons (pe_ix ix_list (pe_call0 GP hr1 rfl gP kP bP .nil pass0) (pe_call GD hr1 rfl gD kD bD .nil pass0 (pa_cons (pv 0) (pa_cons pe_int pa_nil))) (fun _ _ => rfl)) pa_nil)) (by rfl))
        (pss_cons (ps_set (i := 6) sc.nd rfl (.inl rfl) (pe_ix ix_list (pe_lst (pa_cons (pe_ix ix_list (pv 2) (pe_op op_mod (pe_op op_add (pe_op op_add (pv 4) pe_int) (pe_call GD hr1 rfl gD kD bD .nil pass0 (pa_cons (pv 0) (pa_cons pe_int pa_nil)))) pe_int) (fun _ _ => rfl)) (pa_cons (pe_call GM hr rfl gM kM bM .nil pass0 (pa_cons (pv 0) pa_nil)) pa_nil))) (pe_call GD hr1 rfl gD kD bD .nil pass0 (pa_cons (pv 0) (pa_cons pe_int pa_nil))) (fun _ _ => rfl)))
        (pss_cons (ps_set (i := 7) sc.nd rfl (.inl rfl) (pe_lst (pa_cons (pe_op op_add_str pe_str (pv 5)) (pa_cons (pe_op op_add_str pe_str (pv 5)) (pa_cons (pe_op op_add_str (pv 5) pe_str) pa_nil)))))
        (pss_cons (ps_for PassesOwn.never rfl (pi_list (pe_lst (pa_cons pe_str (pa_cons pe_str (pa_cons pe_str pa_nil))))) (pg_name (i := 8) sc.nd rfl (Or.inl rfl))
          (pss_one (ps_expr (pe_bm PySem.F.plainAttrs_list PySem.F.slot_list_append PySem.F.type_list_append mt_append (pv 7) (pa_cons (pe_join (pv 8) (pe_ix ix_list (pe_lst (pa_cons (pe_lst (pa_cons (pe_ix ix_list (pv 2) (pv 4) (fun _ _ => rfl)) (pa_cons (pv 6) pa_nil))) (pa_cons (pe_lst (pa_cons (pv 6) (pa_cons (pe_ix ix_list (pv 2) (pv 4) (fun _ _ => rfl)) pa_nil))) pa_nil))) (pe_call GD hr1 rfl gD kD bD .nil pass0 (pa_cons (pv 0) (pa_cons pe_int pa_nil))) (fun _ _ => rfl))) pa_nil)))))
        (pss_one (ps_expr (pe_bm PySem.F.plainAttrs_list PySem.F.slot_list_append PySem.F.type_list_append mt_append (pv 1) (pa_cons (pe_op op_add_str (pe_ix ix_list (pe_lst (pa_cons pe_str (pa_cons pe_str pa_nil))) (pe_call GD hr1 rfl gD kD bD .nil pass0 (pa_cons (pv 0) (pa_cons pe_int pa_nil))) (fun _ _ => rfl)) (pe_ix ix_list (pv 7) (pe_call GD hr1 rfl gD kD bD .nil pass0 (pa_cons (pv 0) (pa_cons pe_int pa_nil))) (fun _ _ => rfl))) pa_nil)))))))))
      (pss_one (ps_ret (pe_join pe_str (pv 1))))), ?_⟩
    refine ⟨(by show 0 ≤ sizeLine; decide), fun p np => ?_⟩
    have t0 := Same.new (o := .lst []) np
    have gpp : upd H p (.lst []) p = some (.lst (([] : List Str).map V.str)) := upd_same
    refine ⟨rfl, fun N G0 s0 nN gN0 => ?_⟩
    refine ⟨_, _, rfl, ?_⟩
    have B0 := BagAt.keep B (t0.trans s0)
    have pb : p ≠ b := BagAt.ne B np
    have pc : p ≠ c := bag_cells B np
    have Nb : N ≠ b := BagAt.nel B0 gN0
    have Np : N ≠ p := fun z => by rw [z, upd_same] at nN; cases nN
    have gp0 := s0 _ _ gpp
    refine rb_1p (b := b) (c := c) (H := G0) (n := 4) (i := 0) rfl (by decide) (by decide) m G0 _ (But.refl b G0) B0 (by omega) fun x G1 px s1 B1 => ?_
    obtain ⟨j, rfl, j1, j4⟩ := px
    refine ⟨(j : Int), rfl, by omega, by omega, ?_⟩
    rw [show ((j : Nat) : Int).toNat = j by omega]
    refine for_range (lo := 0) (n := j) (fun i σ G => ∃ (ps : List Str) (v3 v4 v5 v6 v7 v8 : Option V), σ = [some (.ref b), some (.ref p), some (.ref N), v3, v4, v5, v6, v7, v8] ∧ But b H G ∧ BagAt c G b (m + 1 + 11 * i) ∧ G p = some (.lst (ps.map V.str)) ∧ G N = some (.lst (namesL.map V.str)) ∧ ps.length = i ∧ ∀ t ∈ ps, partP t)
      ⟨[], none, none, none, none, none, none, rfl, (but_same (t0.trans s0)).trans s1, B1, s1 _ _ gp0 pb, s1 _ _ gN0 Nb, rfl, fun t h => (nomatch h)⟩ ?_ ?_
    · rintro i σ G hi ⟨ps, v3, v4, v5, v6, v7, v8, rfl, sG, BG, gp, gN, pl, hp⟩
      refine gname_to rfl ?_
      dsimp only
      refine rb_d (b := b) (c := c) (H := G) (n := 6) (i := 0) rfl (by decide) (by decide) _ G _ (But.refl b G) BG (by omega) fun x G2 px s2 B2 => ?_
      obtain ⟨d1, rfl, h1⟩ := px
      refine ⟨rfl, fun R G3 s3 gR => ?_⟩
      have B3 := BagAt.keep B2 s3
      have Rb : R ≠ b := BagAt.nel B3 gR
      refine rb_d (b := b) (c := c) (H := G3) (n := 5) (i := 0) rfl (by decide) (by decide) _ G3 _ (But.refl b G3) B3 (by omega) fun x G4 px s4 B4 => ?_
      obtain ⟨d2, rfl, h2⟩ := px
      obtain ⟨pc2, hpc⟩ : ∃ q, placesAll[d2]? = some q := ⟨_, List.getElem?_eq_getElem (show d2 < placesAll.length from h2)⟩
      refine ⟨R, _, _, .str pc2, rfl, rfl, SqL.of (s4 _ _ gR Rb), atI_nat (j := d2) (by rw [List.getElem?_map, hpc]; rfl), ?_⟩
      refine ⟨_, _, rfl, ?_⟩
      dsimp only [List.set]
      obtain ⟨n1, hn1⟩ : ∃ q, namesL[d1]? = some q := ⟨_, List.getElem?_eq_getElem (show d1 < namesL.length from h1)⟩
      have u4 : But b G G4 := s2.trans ((but_same s3).trans s4)
      have gp := u4 _ _ gp pb
      have gN := u4 _ _ gN Nb
      have sG := sG.trans u4
      -- two
      have pt := rb_pick (n := 2) (K := K) (rba_cons (b := b) (c := c) (σ := [some (.ref b), some (.ref p), some (.ref N), some (.int (0 + (i : Nat))), some (.int (d1 : Nat)), some (.str pc2), v6, v7, v8]) (H := G4) (rb_other (K := K) (d1 := d1) rfl rfl rfl gN Nb h1) (rba_cons (rb_tx (k := 2) (p := numP) (i := 0) rfl) rba_nil)) (fun xs h => by
        obtain ⟨y1, r1, rfl, _, y2, r2, rfl, _, rfl⟩ := h
        rfl) (by decide) (rb_d (n := 2) (i := 0) rfl (by decide) (by decide))
      refine pt _ G4 _ (But.refl b G4) B4 (by omega) fun x G5 px s5 B5 => ?_
      obtain ⟨tw, rfl, ht⟩ : ∃ t : Str, x = .str t ∧ ((∃ e, e < 6 ∧ e ≠ d1 ∧ namesL[e]? = some t) ∨ numP t) := by
        obtain ⟨xs, ⟨y1, r1, rfl, ⟨t1, rfl, q1⟩, y2, r2, rfl, ⟨t2, rfl, q2⟩, rfl⟩, hx⟩ := px
        rcases List.mem_cons.mp hx with e | hx
        · exact ⟨_, e, .inl q1⟩
        · exact ⟨_, List.mem_singleton.mp hx, .inr q2⟩
      obtain ⟨w2, sm2, ne2, l2⟩ := two_ok hn1 ht
      have m1 := List.mem_of_getElem? hn1
      obtain ⟨w1, l1⟩ := names_wo n1 m1
      have sm1 := sum_name.1 n1 m1
      refine gname_to rfl ?_
      dsimp only
      have gp := s5 _ _ gp pb
      have gN := s5 _ _ gN Nb
      have sG := sG.trans s5
      -- the pool
      obtain ⟨r1, r2, r3⟩ := raw_fix (List.mem_of_getElem? hpc)
      have pl5 : ∀ t ∈ placesAll, ("used " : Str).length + t.length ≤ 900 ∧ ("ahead used " : Str).length + t.length ≤ 900 ∧ t.length + (" is bin" : Str).length ≤ 900 := by decide +kernel
      obtain ⟨q1, q2, q3⟩ := pl5 pc2 (List.mem_of_getElem? hpc)
      refine ⟨_, rfl, _, _, rfl, rfl, Nat.le_of_lt (small1000 (by omega)), ?_⟩
      refine ⟨_, rfl, _, _, rfl, rfl, Nat.le_of_lt (small1000 (by omega)), ?_⟩
      refine ⟨_, rfl, _, _, rfl, rfl, Nat.le_of_lt (small1000 (by omega)), ?_⟩
      refine ⟨(by show 3 ≤ sizeLine; decide), fun q nq => ?_⟩
      refine gname_to rfl ?_
      dsimp only
      have t6 := Same.new (o := .lst ([("used " ++ pc2 : Str), "ahead used " ++ pc2, pc2 ++ " is bin"].map V.str)) nq
      have qb : q ≠ b := BagAt.ne B5 nq
      have qH : H q = none := none_back sG nq qb
      have qp : q ≠ p := fun z => by rw [z, gp] at nq; cases nq
      have qN : q ≠ N := fun z => by rw [z, gN] at nq; cases nq
      have qc : q ≠ c := bag_cells B qH
      refine ⟨(by show 3 ≤ sizeLine; decide), fun u nu => ⟨u, rfl, ⟨_, SqL.of upd_same⟩, ?_⟩⟩
      have t7 := Same.new (o := .lst ([(" < " : Str), " <= ", " is "].map V.str)) nu
      have gq : upd G5 q (.lst ([("used " ++ pc2 : Str), "ahead used " ++ pc2, pc2 ++ " is bin"].map V.str)) q = _ := upd_same
      have uq : u ≠ q := fun z => by
        have e : upd G5 q (.lst ([("used " ++ pc2 : Str), "ahead used " ++ pc2, pc2 ++ " is bin"].map V.str)) u = none := nu
        rw [z, gq] at e
        cases e
      have s7 := t6.trans t7
      have B7 := BagAt.keep B5 s7
      refine for_list (K := K) (a := u) (xs := [(" < " : Str), " <= ", " is "].map V.str) (fun k2 σ G' => ∃ (pool : List Str) (v8 : Option V), σ = [some (.ref b), some (.ref p), some (.ref N), some (.int (0 + (i : Nat))), some (.int (d1 : Nat)), some (.str pc2), some (.str tw), some (.ref q), v8] ∧ But b H G' ∧ BagAt c G' b (m + 1 + 11 * i + 6 + k2) ∧ G' p = some (.lst (ps.map V.str)) ∧ G' N = some (.lst (namesL.map V.str)) ∧ G' q = some (.lst (pool.map V.str)) ∧ G' u = some (.lst ([(" < " : Str), " <= ", " is "].map V.str)) ∧ pool.length = 3 + k2 ∧ ∀ t ∈ pool, rawP t)
        ⟨[("used " ++ pc2 : Str), "ahead used " ++ pc2, pc2 ++ " is bin"], v8, rfl, sG.trans (but_same s7), BagAt.mono B7 (by omega), s7 _ _ gp, s7 _ _ gN, t7 _ _ gq, upd_same, rfl, fun t h => by
          rcases List.mem_cons.mp h with e | h
          · rw [e]; exact r1
          rcases List.mem_cons.mp h with e | h
          · rw [e]; exact r2
          · rw [List.mem_singleton.mp h]; exact r3⟩ (fun k2 σ G' _ ⟨_, _, _, _, _, _, _, _, g, _⟩ => SqL.of g) ?_ ?_
      · rintro k2 y σ G' hy ⟨pool, v8, rfl, sG, BG, gp, gN, gq, gu, hl, hr⟩
        obtain ⟨sg, hsg, rfl⟩ := at_map hy
        have k3 : k2 < 3 := (List.getElem?_eq_some_iff.mp hsg).1
        have msg := List.mem_of_getElem? hsg
        rw [cmp_list] at msg
        obtain ⟨cm, hcm, esg⟩ := List.mem_map.mp msg
        have at1 : atI (namesL.map V.str) (d1 : Int) = some (.str n1) := atI_nat (by rw [List.getElem?_map, hn1]; rfl)
        refine gname_to rfl ?_
        dsimp only
        refine ⟨_, rfl, .inl ⟨rfl, _, SqL.of gq⟩, ⟨_, rfl, ⟨_, rfl⟩, ?_⟩⟩
        refine ⟨_, rfl, _, rfl, N, _, _, _, rfl, rfl, SqL.of gN, at1, _, rfl, (by show 2 ≤ sizeLine; decide), fun a1 na1 => ?_⟩
        have x1 := Same.new (o := .lst [.str n1, .str tw]) na1
        refine ⟨_, rfl, _, rfl, _, rfl, N, _, _, _, rfl, rfl, SqL.of (x1 _ _ gN), at1, (by show 2 ≤ sizeLine; decide), fun a2 na2 => ?_⟩
        have x2 := Same.new (o := .lst [.str tw, .str n1]) na2
        refine ⟨(by show 2 ≤ sizeLine; decide), fun a3 na3 => ?_⟩
        have x3 := Same.new (o := .lst [.ref a1, .ref a2]) na3
        have xx := x1.trans (x2.trans x3)
        have g1 := (x2.trans x3) _ _ (upd_same (H := G') (a := a1) (o := .lst [.str n1, .str tw]))
        have g2 := x3 _ _ (upd_same (H := upd G' a1 (.lst [.str n1, .str tw])) (a := a2) (o := .lst [.str tw, .str n1]))
        have g3 : upd (upd (upd G' a1 (.lst [.str n1, .str tw])) a2 (.lst [.str tw, .str n1])) a3 (.lst [.ref a1, .ref a2]) a3 = some (.lst [.ref a1, .ref a2]) := upd_same
        have BX := BagAt.keep BG xx
        have b1 : a1 ≠ b := BagAt.nel BX g1
        have b2 : a2 ≠ b := BagAt.nel BX g2
        have b3 : a3 ≠ b := BagAt.nel BX g3
        have gp := xx _ _ gp
        have gN := xx _ _ gN
        have gq := xx _ _ gq
        have gu := xx _ _ gu
        have sX := sG.trans (but_same xx)
        generalize upd (upd (upd G' a1 (.lst [.str n1, .str tw])) a2 (.lst [.str tw, .str n1])) a3 (.lst [.ref a1, .ref a2]) = GX at g1 g2 g3 BX gp gN gq gu sX ⊢
        refine rb_d (b := b) (c := c) (H := GX) (n := 2) (i := 0) rfl (by decide) (by decide) _ GX _ (But.refl b GX) BX (by omega) fun x GY px sY BY => ?_
        obtain ⟨d3, rfl, h3⟩ := px
        have gp := sY _ _ gp pb
        have gN := sY _ _ gN Nb
        have gq := sY _ _ gq qb
        have gu := sY _ _ gu (BagAt.nel BX gu)
        have sX := sX.trans sY
        -- the end: the joined text, behind the others
        have fin : ∀ t : Str, rawP t → rAppend (.ref q) [.str t] GY fun x H' => ∃ (pool : List Str) (v8 : Option V), [some (.ref b), some (.ref p), some (.ref N), some (.int (0 + (i : Nat))), some (.int (d1 : Nat)), some (.str pc2), some (.str tw), some (.ref q), some (.str sg)] = [some (.ref b), some (.ref p), some (.ref N), some (.int (0 + (i : Nat))), some (.int (d1 : Nat)), some (.str pc2), some (.str tw), some (.ref q), v8] ∧ But b H H' ∧ BagAt c H' b (m + 1 + 11 * i + 6 + (k2 + 1)) ∧ H' p = some (.lst (ps.map V.str)) ∧ H' N = some (.lst (namesL.map V.str)) ∧ H' q = some (.lst (pool.map V.str)) ∧ H' u = some (.lst ([(" < " : Str), " <= ", " is "].map V.str)) ∧ pool.length = 3 + (k2 + 1) ∧ ∀ t ∈ pool, rawP t := fun t ht => by
          refine ⟨q, _, _, rfl, rfl, gq, small1000 (by rw [List.length_map]; omega), ?_⟩
          refine ⟨pool ++ [t], _, rfl, but_write sX qH, BagAt.mono (bag_write BY qb qc) (by omega), by rw [upd_ne qp.symm]; exact gp, by rw [upd_ne qN.symm]; exact gN, by rw [upd_same, List.map_append]; rfl, by rw [upd_ne uq]; exact gu, by rw [List.length_append, hl]; rfl, fun z hz => ?_⟩
          rcases List.mem_append.mp hz with e | e
          · exact hr z e
          · rw [List.mem_singleton.mp e]; exact ht
        have sb : ∀ x y : Str, x.length + y.length ≤ 36 → ([x, y].map fun y => y.length).sum + [x, y].length * sg.length ≤ 16777216 := fun x y h => by
          have sl : sg.length ≤ 4 := by
            have h4 : ∀ t ∈ [(" < " : Str), " <= ", " is "], t.length ≤ 4 := by decide +kernel
            exact h4 sg (List.mem_of_getElem? hsg)
          show x.length + (y.length + 0) + 2 * sg.length ≤ 16777216
          omega
        have ra : rawP (Txt.join sg [n1, tw]) := by rw [← esg]; exact raw_comp w1 w2 sm1 sm2 (Ne.symm ne2) hcm (by omega)
        have rb : rawP (Txt.join sg [tw, n1]) := by rw [← esg]; exact raw_comp w2 w1 sm2 sm1 ne2 hcm (by omega)
        match d3, h3 with
        | 0, _ => exact ⟨a3, _, _, .ref a1, rfl, rfl, SqL.of (sY _ _ g3 b3), atI_nat (j := 0) rfl, sg, a1, [n1, tw], rfl, rfl, .inl (SqL.of (sY _ _ g1 b1)), sb _ _ (by omega), fin _ ra⟩
        | 1, _ => exact ⟨a3, _, _, .ref a2, rfl, rfl, SqL.of (sY _ _ g3 b3), atI_nat (j := 1) rfl, sg, a2, [tw, n1], rfl, rfl, .inl (SqL.of (sY _ _ g2 b2)), sb _ _ (by omega), fin _ rb⟩
      · rintro σ G' ⟨pool, v8, rfl, sG, BG, gp, gN, gq, gu, hl, hr⟩
        have p6 : pool.length = 6 := hl
        have pre := rb_pick (n := 2) (K := K) (rba_cons (b := b) (c := c) (σ := [some (.ref b), some (.ref p), some (.ref N), some (.int (0 + (i : Nat))), some (.int (d1 : Nat)), some (.str pc2), some (.str tw), some (.ref q), v8]) (H := G') (rb_c (.str "")) (rba_cons (rb_c (.str "not ")) rba_nil)) (fun xs h => by
          obtain ⟨y1, r1, rfl, rfl, y2, r2, rfl, rfl, rfl⟩ := h
          rfl) (by decide) (rb_d (n := 2) (i := 0) rfl (by decide) (by decide))
        refine ⟨_, rfl, .inl ⟨rfl, _, SqL.of gp⟩, ?_⟩
        refine pre _ G' _ (But.refl b G') BG (by show _ + (0 + (0 + 0) + 1) ≤ 90000; simp only [List.length_map, List.length_cons, List.length_nil]; omega) fun x GX px sX BX => ?_
        obtain ⟨pr, rfl, hpr⟩ : ∃ t : Str, x = .str t ∧ (t = "" ∨ t = "not ") := by
          obtain ⟨xs, ⟨y1, r1, rfl, rfl, y2, r2, rfl, rfl, rfl⟩, hx⟩ := px
          rcases List.mem_cons.mp hx with e | hx
          · exact ⟨_, e, .inl rfl⟩
          · exact ⟨_, List.mem_singleton.mp hx, .inr rfl⟩
        refine ⟨_, rfl, ?_⟩
        refine rb_d (b := b) (c := c) (H := GX) (n := 6) (i := 0) rfl (by decide) (by decide) _ GX _ (But.refl b GX) BX (by simp only [List.length_map, List.length_cons, List.length_nil]; omega) fun x GY px sY BY => ?_
        obtain ⟨d5, rfl, h5⟩ := px
        obtain ⟨tx, htx⟩ : ∃ t, pool[d5]? = some t := ⟨_, List.getElem?_eq_getElem (by omega)⟩
        have gq := sY _ _ (sX _ _ gq qb) qb
        have gp := sY _ _ (sX _ _ gp pb) pb
        have gN := sY _ _ (sX _ _ gN Nb) Nb
        have rt := hr tx (List.mem_of_getElem? htx)
        have prl : pr.length ≤ 4 := by
          rcases hpr with rfl | rfl
          · decide +kernel
          · exact Nat.le_of_eq not_wo.2.2.2.2.1
        have txl : tx.length ≤ 44 := by
          obtain ⟨_, _, _, _, _, _, l⟩ := rt
          exact l
        refine ⟨q, _, _, .str tx, rfl, rfl, SqL.of gq, atI_nat (j := d5) (by rw [List.getElem?_map, htx]; rfl), _, _, rfl, rfl, Nat.le_of_lt (small1000 (by omega)), ?_⟩
        refine ⟨p, _, _, rfl, rfl, gp, small1000 (by rw [List.length_map]; omega), ?_⟩
        refine ⟨ps ++ [pr ++ tx], _, _, _, _, _, _, rfl, but_write (sG.trans (sX.trans sY)) np, BagAt.mono (bag_write BY pb pc) (by simp only [List.length_map, List.length_cons, List.length_nil]; omega), by rw [upd_same, List.map_append]; rfl, by rw [upd_ne Np]; exact gN, by rw [List.length_append, pl]; rfl, fun z hz => ?_⟩
        rcases List.mem_append.mp hz with e | e
        · exact hp z e
        · rw [List.mem_singleton.mp e]; exact part_of_raw rt hpr
    · rintro σ G ⟨ps, v3, v4, v5, v6, v7, v8, rfl, sG, BG, gp, gN, pl, hp⟩
      have bd : ∀ qs : List Str, (∀ t ∈ qs, partP t) → (qs.map fun y => y.length).sum ≤ 48 * qs.length := by
        intro qs
        induction qs with
        | nil => intro _; exact Nat.zero_le _
        | cons t qs ih =>
          intro h
          have ih := ih fun t ht => h t (List.mem_cons_of_mem _ ht)
          obtain ⟨g, _, _, _, _, l⟩ := h t (by simp)
          rw [List.map_cons, List.sum_cons, List.length_cons]
          omega
      have z := bd ps hp
      refine ⟨⟨_, rfl⟩, _, rfl, " and ", p, ps, rfl, rfl, .inl (SqL.of gp), ?_, k _ G (parts_text (fun q => by rw [q] at pl; simp at pl; omega) (by omega) hp) sG (BagAt.mono BG (by omega))⟩
      rw [show (" and " : Str).length = 5 by decide +kernel]
      omega
end
end K14

set_option Elab.async false
set_option linter.all false
set_option maxRecDepth 100000
set_option maxHeartbeats 8000000
/-! k14, the law: drawn plain lines, the mathematics -/
namespace K14
open PySem L2 K14D
/-- a drawn line that is no block -/
structure PlainP (s : Str) : Prop where
  ln : Ln s
  ok : lineB s = true
  nif : wd (Txt.split s " ") 0 ≠ "if"
  nend : s ≠ "end"
  nels : s ≠ "else"
  len : s.length ≤ 180
def lineW (ws : List Str) : Bool :=
  if wd ws 0 = "if" then ifB ws
  else if (ws.drop 1).take 1 = [("=" : Str)] then setB (wd ws 0) (ws.drop 2)
  else if wd ws 0 ∈ flagsL ∨ (wd ws 0 = "ahead" ∧ (ws.drop 1).take 1 ∈ [[("used" : Str)], [("free" : Str)]]) then decide (ws.length = if wd ws 0 ∈ flagsL then 2 else 3) && decide (wd ws (ws.length - 1) ∈ placesAll)
  else if (ws.drop 2).take 1 ≠ [("=" : Str)] then false
  else if wd ws 0 ∈ linksL then decide (wd ws 1 ∈ placesAll ++ [("bin" : Str)]) && (decide (ws.length = 4) && decide (wd ws 3 ∈ placesAll ++ [("bin" : Str)]))
  else if wd ws 0 = "head" then (decide (5 < ws.length) && (decide (wd ws (ws.length - 1) ∈ flagsL) && decide (wd ws (ws.length - 2) ∈ flagsL))) && (decide (wd ws 1 ∈ placesAll) && sumB ((ws.drop 3).take (ws.length - 5)))
  else decide (wd ws 0 ∈ [("size" : Str), "foot"]) && (decide (wd ws 1 ∈ placesAll) && sumB (ws.drop 3))
theorem not_short {x : Str} {ws : List Str} (sp : Txt.split x " " = ws) (l : 2 ≤ ws.length) : x ≠ "no" ∧ x ≠ "quit" ∧ x ≠ "end" ∧ x ≠ "else" := by
  obtain ⟨o1, o2, o3, o4, o5⟩ := ones
  refine ⟨?_, ?_, ?_, ?_⟩ <;> intro z <;> subst z
  · rw [o2] at sp; rw [← sp] at l; simp at l
  · rw [o1] at sp; rw [← sp] at l; simp at l
  · rw [o4] at sp; rw [← sp] at l; simp at l
  · rw [o3] at sp; rw [← sp] at l; simp at l
theorem lineB_W {x : Str} {ws : List Str} (sp : Txt.split x " " = ws) (l : 2 ≤ ws.length) : lineB x = lineW ws := by
  obtain ⟨n1, n2, _, _⟩ := not_short sp l
  unfold lineB lineW
  rw [sp]
  dsimp only
  rw [if_neg (fun z : x = "no" ∨ x = "quit" => z.elim n1 n2)]
theorem plain_of {x : Str} {ws : List Str} (e : TL.tl x = wl ws) (hw : ∀ w ∈ ws, Wo w) (l : 2 ≤ ws.length) (len : x.length ≤ 180) (h0 : wd ws 0 ≠ "if") (h : lineW ws = true) : PlainP x := by
  have ne : ws ≠ [] := fun z => by rw [z] at l; simp at l
  have sp := split_words e ne hw
  obtain ⟨_, _, n3, n4⟩ := not_short sp l
  exact ⟨⟨fun c hc => by rw [e] at hc; exact wl_ok hw c hc, by omega⟩, by rw [lineB_W sp l]; exact h, by rw [sp]; exact h0, n3, n4, len⟩
def plB (x : Str) (ws : List Str) : Bool := decide (TL.tl x = wl ws) && (ws.all woB && (decide (2 ≤ ws.length) && (decide (x.length ≤ 180) && (decide (wd ws 0 ≠ "if") && lineW ws))))
theorem plain_b {x : Str} {ws : List Str} (h : plB x ws = true) : PlainP x := by
  unfold plB at h
  obtain ⟨a, h⟩ := Bool.and_eq_true_iff.mp h
  obtain ⟨b, h⟩ := Bool.and_eq_true_iff.mp h
  obtain ⟨c, h⟩ := Bool.and_eq_true_iff.mp h
  obtain ⟨d, h⟩ := Bool.and_eq_true_iff.mp h
  obtain ⟨e, h⟩ := Bool.and_eq_true_iff.mp h
  exact plain_of (of_decide_eq_true a) (fun w q => wo_of (List.all_eq_true.mp b w q)) (of_decide_eq_true c) (of_decide_eq_true d) (of_decide_eq_true e) h
def goalsL : List Str := ["p", "q", "r", "s"]
def ends6 : List Str := ["own", "p", "q", "r", "s", "bin"]
theorem plain_word : PlainP "no" ∧ PlainP "quit" := by
  have h : ∀ x ∈ [("no" : Str), "quit"], (∀ c ∈ TL.tl x, c < 128 ∧ c ≠ 10) ∧ x.length ≤ 180 ∧ lineB x = true ∧ wd (Txt.split x " ") 0 ≠ "if" ∧ x ≠ "end" ∧ x ≠ "else" := by decide +kernel
  have k : ∀ x ∈ [("no" : Str), "quit"], PlainP x := fun x hx => by
    obtain ⟨a, b, c, d, e, f⟩ := h x hx
    exact ⟨⟨a, by omega⟩, c, d, e, f, b⟩
  exact ⟨k _ (by simp), k _ (by simp)⟩
theorem fix1 : (regsL.all fun g => placesAll.all fun p => plB (g ++ " = size " ++ p) [g, "=", "size", p] && plB (g ++ " = size ahead " ++ p) [g, "=", "size", "ahead", p]) = true := by decide +kernel
theorem fix2 : (goalsL.all fun g => (placesAll.all fun p => plB (g ++ " = " ++ p) [g, "=", p]) && (ends6.all fun p => plB (g ++ " = next " ++ p) [g, "=", "next", p] && plB (g ++ " = prev " ++ p) [g, "=", "prev", p])) = true := by decide +kernel
theorem fix3 : (ends6.all fun p => ends6.all fun q => plB ("next " ++ p ++ " = " ++ q) ["next", p, "=", q] && plB ("prev " ++ p ++ " = " ++ q) ["prev", p, "=", q]) = true := by decide +kernel
theorem fix4 : (flagsL.all fun f => placesAll.all fun p => plB (f ++ " " ++ p) [f, p] && plB ("ahead " ++ f ++ " " ++ p) ["ahead", f, p]) = true := by decide +kernel
theorem plain_size {g p : Str} (hg : g ∈ regsL) (hp : p ∈ placesAll) : PlainP (g ++ " = size " ++ p) ∧ PlainP (g ++ " = size ahead " ++ p) := by
  have z := Bool.and_eq_true_iff.mp (List.all_eq_true.mp (List.all_eq_true.mp fix1 g hg) p hp)
  exact ⟨plain_b z.1, plain_b z.2⟩
theorem plain_goal {g p : Str} (hg : g ∈ goalsL) (hp : p ∈ placesAll) : PlainP (g ++ " = " ++ p) := by
  have z := Bool.and_eq_true_iff.mp (List.all_eq_true.mp fix2 g hg)
  exact plain_b (List.all_eq_true.mp z.1 p hp)
theorem plain_link {g p : Str} (hg : g ∈ goalsL) (hp : p ∈ ends6) : PlainP (g ++ " = next " ++ p) ∧ PlainP (g ++ " = prev " ++ p) := by
  have z := Bool.and_eq_true_iff.mp (List.all_eq_true.mp (Bool.and_eq_true_iff.mp (List.all_eq_true.mp fix2 g hg)).2 p hp)
  exact ⟨plain_b z.1, plain_b z.2⟩
theorem plain_links {p q : Str} (hp : p ∈ ends6) (hq : q ∈ ends6) : PlainP ("next " ++ p ++ " = " ++ q) ∧ PlainP ("prev " ++ p ++ " = " ++ q) := by
  have z := Bool.and_eq_true_iff.mp (List.all_eq_true.mp (List.all_eq_true.mp fix3 p hp) q hq)
  exact ⟨plain_b z.1, plain_b z.2⟩
theorem plain_flag {f p : Str} (hf : f ∈ flagsL) (hp : p ∈ placesAll) : PlainP (f ++ " " ++ p) ∧ PlainP ("ahead " ++ f ++ " " ++ p) := by
  have z := Bool.and_eq_true_iff.mp (List.all_eq_true.mp (List.all_eq_true.mp fix4 f hf) p hp)
  exact ⟨plain_b z.1, plain_b z.2⟩
/-! ### with a sum -/
/-- words ahead of a sum -/
theorem ahead_tl {pre : Str} {us ws : List Str} {s : Str} (hu : us ≠ []) (hn : ws ≠ []) (e : TL.tl pre = wl us ++ [32]) (es : TL.tl s = wl ws) : TL.tl (pre ++ s) = wl (us ++ ws) := by
  rw [TL.tl_append, e, es, wl_app hu hn]
  simp [List.append_assoc]
def preB (pre : Str) (us : List Str) : Bool := decide (TL.tl pre = wl us ++ [32]) && (us.all woB && (decide (us ≠ []) && decide (pre.length ≤ 20)))
theorem pre_b {pre : Str} {us : List Str} (h : preB pre us = true) : TL.tl pre = wl us ++ [32] ∧ (∀ w ∈ us, Wo w) ∧ us ≠ [] ∧ pre.length ≤ 20 := by
  unfold preB at h
  obtain ⟨a, h⟩ := Bool.and_eq_true_iff.mp h
  obtain ⟨b, h⟩ := Bool.and_eq_true_iff.mp h
  obtain ⟨c, h⟩ := Bool.and_eq_true_iff.mp h
  exact ⟨of_decide_eq_true a, fun w q => wo_of (List.all_eq_true.mp b w q), of_decide_eq_true c, of_decide_eq_true h⟩
theorem pre1 : (regsL.all fun g => preB (g ++ " = ") [g, "="]) = true := by decide +kernel
theorem pre2 : (goalsL.all fun g => placesAll.all fun p => preB (g ++ " = " ++ p ++ " + ") [g, "=", p, "+"] && preB (g ++ " = " ++ p ++ " - ") [g, "=", p, "-"]) = true := by decide +kernel
theorem pre3 : (placesAll.all fun p => preB ("head " ++ p ++ " = ") ["head", p, "="] && (preB ("size " ++ p ++ " = ") ["size", p, "="] && preB ("foot " ++ p ++ " = ") ["foot", p, "="])) = true := by decide +kernel
theorem size_first {ws : List Str} (h : sumB ws = true) : ws.take 1 ≠ [("size" : Str)] := fun z => by
  obtain ⟨r, e⟩ := one_of z
  rw [e, sum_size] at h
  cases h
theorem regs_words : (∀ g ∈ regsL, g ≠ "if" ∧ g ∉ placesAll) ∧ (∀ g ∈ goalsL, g ≠ "if" ∧ g ∉ regsL ∧ g ∈ placesAll.drop 1) ∧ (∀ p ∈ placesAll, p ∉ linksL ∧ p ≠ "=" ∧ p ≠ "used" ∧ p ≠ "free") ∧ (∀ g ∈ [("head" : Str), "size", "foot"], g ≠ "if" ∧ g ∉ flagsL ∧ g ≠ "ahead" ∧ g ∉ linksL) ∧ ("size" : Str) ≠ "head" ∧ ("foot" : Str) ≠ "head" := by decide +kernel
theorem plain_sum {g s : Str} (hg : g ∈ regsL) (hs : sumP s) : PlainP (g ++ " = " ++ s) := by
  obtain ⟨ws, e, hw, ne, sm, l⟩ := hs
  obtain ⟨a, b, c, d⟩ := pre_b (List.all_eq_true.mp pre1 g hg)
  have n1 := regs_words.1 g hg
  refine plain_of (ahead_tl c ne a e) (fun w h => (List.mem_append.mp h).elim (b w) (hw w)) (by simp) (by rw [add_len]; omega) n1.1 ?_
  unfold lineW
  rw [if_neg (show ¬ wd ([g, "="] ++ ws) 0 = "if" from n1.1), if_pos (show (([g, "="] ++ ws).drop 1).take 1 = [("=" : Str)] from rfl)]
  show setB g ws = true
  unfold setB
  rw [if_pos hg, if_neg (size_first sm)]
  exact sm
theorem plain_off {g p s sg : Str} (hg : g ∈ goalsL) (hp : p ∈ placesAll) (hsg : sg = " + " ∨ sg = " - ") (hs : sumP s) : PlainP (g ++ " = " ++ p ++ sg ++ s) := by
  obtain ⟨ws, e, hw, ne, sm, l⟩ := hs
  have z := Bool.and_eq_true_iff.mp (List.all_eq_true.mp (List.all_eq_true.mp pre2 g hg) p hp)
  obtain ⟨n1, n2, n3⟩ := regs_words.2.1 g hg
  obtain ⟨m1, _⟩ := regs_words.2.2.1 p hp
  obtain ⟨sc, hsc, pb⟩ : ∃ sc, (sc = ("+" : Str) ∨ sc = "-") ∧ preB (g ++ " = " ++ p ++ sg) [g, "=", p, sc] = true := by
    rcases hsg with rfl | rfl
    · exact ⟨_, .inl rfl, z.1⟩
    · exact ⟨_, .inr rfl, z.2⟩
  obtain ⟨a, b, c, d⟩ := pre_b pb
  refine plain_of (ahead_tl c ne a e) (fun w h => (List.mem_append.mp h).elim (b w) (hw w)) (by simp) (by rw [add_len]; omega) n1 ?_
  unfold lineW
  rw [if_neg (show ¬ wd ([g, "=", p, sc] ++ ws) 0 = "if" from n1), if_pos (show (([g, "=", p, sc] ++ ws).drop 1).take 1 = [("=" : Str)] from rfl)]
  show setB g (p :: sc :: ws) = true
  unfold setB
  rw [if_neg n2, if_neg (show ¬ (g ∉ placesAll.drop 1 ∨ p :: sc :: ws = []) from fun z => z.elim (fun q => q n3) (fun q => by cases q)), if_neg (show ¬ wd (p :: sc :: ws) 0 ∈ linksL from m1),
    if_neg (show ¬ (wd (p :: sc :: ws) 0 ∉ placesAll ∨ (1 < (p :: sc :: ws).length ∧ wd (p :: sc :: ws) 1 ∉ [("+" : Str), "-"])) from fun z => z.elim (fun q => q hp) fun q => q.2 (by
      show sc ∈ [("+" : Str), "-"]
      rcases hsc with rfl | rfl <;> simp))]
  show (_ || sumB ws) = true
  rw [sm, Bool.or_true]
theorem eq_one (p : Str) (h : p ≠ "=") : [p] ≠ [("=" : Str)] := fun z => h (List.cons.inj z).1
theorem plain_sized {h p s : Str} (hh : h = "size" ∨ h = "foot") (hp : p ∈ placesAll) (hs : sumP s) : PlainP (h ++ " " ++ p ++ " = " ++ s) := by
  obtain ⟨ws, e, hw, ne, sm, l⟩ := hs
  have z := Bool.and_eq_true_iff.mp (List.all_eq_true.mp pre3 p hp)
  have z2 := Bool.and_eq_true_iff.mp z.2
  obtain ⟨m1, m2, m3, m4⟩ := regs_words.2.2.1 p hp
  have hm : h ∈ [("head" : Str), "size", "foot"] := by rcases hh with rfl | rfl <;> simp
  have hm2 : h ∈ [("size" : Str), "foot"] := by rcases hh with rfl | rfl <;> simp
  have hnh : h ≠ "head" := by
    rcases hh with rfl | rfl
    · exact regs_words.2.2.2.2.1
    · exact regs_words.2.2.2.2.2
  obtain ⟨k1, k2, k3, k4⟩ := regs_words.2.2.2.1 h hm
  have pb : preB (h ++ " " ++ p ++ " = ") [h, p, "="] = true := by
    rcases hh with rfl | rfl
    · rw [show ("size" ++ " " : Str) = "size " by decide +kernel]; exact z2.1
    · rw [show ("foot" ++ " " : Str) = "foot " by decide +kernel]; exact z2.2
  obtain ⟨a, b, c, d⟩ := pre_b pb
  refine plain_of (ahead_tl c ne a e) (fun w h => (List.mem_append.mp h).elim (b w) (hw w)) (by simp) (by rw [add_len]; omega) k1 ?_
  unfold lineW
  rw [if_neg (show ¬ wd ([h, p, "="] ++ ws) 0 = "if" from k1), if_neg (show ¬ (([h, p, "="] ++ ws).drop 1).take 1 = [("=" : Str)] from eq_one p m2),
    if_neg (show ¬ (wd ([h, p, "="] ++ ws) 0 ∈ flagsL ∨ (wd ([h, p, "="] ++ ws) 0 = "ahead" ∧ _)) from fun q => q.elim k2 (fun q => k3 q.1)), if_neg (show ¬ (([h, p, "="] ++ ws).drop 2).take 1 ≠ [("=" : Str)] from fun q => q rfl),
    if_neg (show ¬ wd ([h, p, "="] ++ ws) 0 ∈ linksL from k4), if_neg (show ¬ wd ([h, p, "="] ++ ws) 0 = "head" from hnh)]
  show (decide (h ∈ [("size" : Str), "foot"]) && (decide (p ∈ placesAll) && sumB ws)) = true
  rw [decide_eq_true hm2, decide_eq_true hp, sm]
  rfl
theorem flag_tail : ∀ f ∈ flagsL, ∀ g ∈ flagsL, TL.tl (" " ++ f ++ " " ++ g : Str) = [32] ++ wl [f, g] ∧ (" " ++ f ++ " " ++ g : Str).length ≤ 10 ∧ woB f = true ∧ woB g = true := by decide +kernel
theorem plain_head {p s f g : Str} (hp : p ∈ placesAll) (hs : sumP s) (hf : f ∈ flagsL) (hg : g ∈ flagsL) : PlainP ("head " ++ p ++ " = " ++ s ++ " " ++ f ++ " " ++ g) := by
  obtain ⟨ws, e, hw, ne, sm, l⟩ := hs
  have z := Bool.and_eq_true_iff.mp (List.all_eq_true.mp pre3 p hp)
  obtain ⟨m1, m2, m3, m4⟩ := regs_words.2.2.1 p hp
  obtain ⟨k1, k2, k3, k4⟩ := regs_words.2.2.2.1 "head" (by simp)
  obtain ⟨a, b, c, d⟩ := pre_b z.1
  obtain ⟨ft, fl, fw, gw⟩ := flag_tail f hf g hg
  have as : ∀ a b c d e : Str, a ++ b ++ c ++ d ++ e = a ++ (b ++ c ++ d ++ e) := fun a b c d e => by
    refine TL.ext_tl ?_
    simp only [TL.tl_append, List.append_assoc]
  rw [as]
  have et : TL.tl ("head " ++ p ++ " = " ++ s ++ (" " ++ f ++ " " ++ g)) = wl ([("head" : Str), p, "="] ++ ws ++ [f, g]) := by
    rw [TL.tl_append, ahead_tl c ne a e, ft, wl_app (x := [("head" : Str), p, "="] ++ ws) (y := [f, g]) (by simp) (by simp)]
    rfl
  have hwA : ∀ w ∈ [("head" : Str), p, "="] ++ ws ++ [f, g], Wo w := fun w h => by
    rcases List.mem_append.mp h with h | h
    · exact (List.mem_append.mp h).elim (b w) (hw w)
    · rcases List.mem_cons.mp h with h | h
      · rw [h]; exact wo_of fw
      · rw [List.mem_singleton.mp h]; exact wo_of gw
  obtain ⟨x, r, ex⟩ : ∃ x r, ws = x :: r := by
    cases ws with
    | nil => exact absurd rfl ne
    | cons x r => exact ⟨x, r, rfl⟩
  refine plain_of et hwA (by simp) (by rw [add_len, add_len]; omega) k1 ?_
  have len : ([("head" : Str), p, "="] ++ ws ++ [f, g]).length = ws.length + 5 := by simp
  have l1 : 1 ≤ ws.length := List.length_pos_iff.mpr ne
  have wa : wd ([("head" : Str), p, "="] ++ ws ++ [f, g]) (ws.length + 5 - 1) = g := by
    unfold wd
    rw [List.getD_eq_getElem?_getD, List.getElem?_append_right (by simp)]
    have i : ws.length + 5 - 1 - ([("head" : Str), p, "="] ++ ws).length = 1 := by simp
    rw [i]
    rfl
  have wb : wd ([("head" : Str), p, "="] ++ ws ++ [f, g]) (ws.length + 5 - 2) = f := by
    unfold wd
    rw [List.getD_eq_getElem?_getD, List.getElem?_append_right (by simp)]
    have i : ws.length + 5 - 2 - ([("head" : Str), p, "="] ++ ws).length = 0 := by simp
    rw [i]
    rfl
  have mid : (([("head" : Str), p, "="] ++ ws ++ [f, g]).drop 3).take (([("head" : Str), p, "="] ++ ws ++ [f, g]).length - 5) = ws := by
    rw [len, show ws.length + 5 - 5 = ws.length by omega]
    show (ws ++ [f, g]).take ws.length = ws
    exact List.take_left' rfl
  unfold lineW
  rw [if_neg (show ¬ wd ([("head" : Str), p, "="] ++ ws ++ [f, g]) 0 = "if" from k1), if_neg (show ¬ (([("head" : Str), p, "="] ++ ws ++ [f, g]).drop 1).take 1 = [("=" : Str)] from eq_one p m2),
    if_neg (show ¬ (wd ([("head" : Str), p, "="] ++ ws ++ [f, g]) 0 ∈ flagsL ∨ (wd ([("head" : Str), p, "="] ++ ws ++ [f, g]) 0 = "ahead" ∧ _)) from fun q => q.elim k2 (fun q => k3 q.1)), if_neg (show ¬ (([("head" : Str), p, "="] ++ ws ++ [f, g]).drop 2).take 1 ≠ [("=" : Str)] from fun q => q rfl),
    if_neg (show ¬ wd ([("head" : Str), p, "="] ++ ws ++ [f, g]) 0 ∈ linksL from k4), if_pos (show wd ([("head" : Str), p, "="] ++ ws ++ [f, g]) 0 = "head" from rfl), mid, len, wa, wb]
  rw [decide_eq_true (by omega : 5 < ws.length + 5), decide_eq_true hf, decide_eq_true hg, sm, decide_eq_true (show wd ([("head" : Str), p, "="] ++ ws ++ [f, g]) 1 ∈ placesAll from hp)]
  rfl
end K14

set_option Elab.async false
set_option linter.all false
set_option maxRecDepth 100000
set_option maxHeartbeats 8000000
/-! k14, the law: blocks within one another, the mathematics -/
namespace K14
open PySem L2
/-- whether a line begins a block -/
def ifP (x : Str) : Bool := decide (wd (Txt.split x " ") 0 = "if")
/-- the open blocks behind a line -/
def stepN (x : Str) (n : List Str) : Option (List Str) :=
  if x = "end" then (if n = [] then none else some n.dropLast)
  else if x = "else" then (if n = [] ∨ n.getLast? = some ("else" : Str) then none else some (n.dropLast ++ [("else" : Str)]))
  else if lineB x = true then some (if ifP x = true then n ++ [("if" : Str)] else n) else none
theorem read_at {kd : Str} {ws n n2 : List Str} {st : St} (h : readS kd ws n = some (st, n2)) (h1 : ws ≠ [("else" : Str)]) (h2 : ws ≠ [("end" : Str)]) : n2 = if wd ws 0 = "if" then n ++ [("if" : Str)] else n := by
  unfold readS at h
  by_cases c : ws.getD 0 Str.empty = "if"
  · rw [if_pos c] at h
    rw [if_pos (show wd ws 0 = "if" from c)]
    obtain ⟨t, _, e⟩ := Option.map_eq_some_iff.mp h
    cases e
    rfl
  · rw [if_neg c, if_neg h1, if_neg h2] at h
    rw [if_neg (show ¬ wd ws 0 = "if" from c)]
    obtain ⟨t, _, e⟩ := Option.map_eq_some_iff.mp h
    cases e
    rfl
theorem els_words : ¬ [("else" : Str)].getD 0 Str.empty = "if" ∧ ¬ [("end" : Str)].getD 0 Str.empty = "if" ∧ ¬ [("end" : Str)] = [("else" : Str)] ∧ ¬ ("end" : Str) = "else" ∧ ¬ ("else" : Str) = "end" := by decide +kernel
theorem step_read {x : Str} (h : Ln x) (n : List Str) : (readS "take" (Txt.split x " ") n).map (·.2) = stepN x n := by
  obtain ⟨o1, o2, o3, o4, o5⟩ := ones
  obtain ⟨e1, e2, e3, e4, e5⟩ := els_words
  by_cases h1 : x = "end"
  · subst h1
    unfold stepN readS
    rw [o4, if_pos rfl, if_neg e2, if_neg e3, if_pos rfl]
    split <;> rfl
  by_cases h2 : x = "else"
  · subst h2
    unfold stepN readS
    rw [o3, if_neg e5, if_pos rfl, if_neg e1, if_pos rfl]
    split <;> rfl
  unfold stepN
  rw [if_neg h1, if_neg h2]
  have l := line_eq h n h1 h2
  cases e : readS "take" (Txt.split x " ") n with
  | none =>
    rw [e] at l
    have l : false = lineB x := l
    rw [← l]
    rfl
  | some p =>
    obtain ⟨st, n2⟩ := p
    rw [e] at l
    have l : true = lineB x := l
    rw [← l, if_pos rfl]
    show some n2 = _
    rw [read_at e (fun z => h2 ((split_one o3).mp z)) (fun z => h1 ((split_one o4).mp z))]
    unfold ifP
    by_cases c : wd (Txt.split x " ") 0 = "if"
    · rw [if_pos c, decide_eq_true c, if_pos rfl]
    · rw [if_neg c, decide_eq_false c, if_neg Bool.false_ne_true]
def badN : List Str → Nat → List Str → Option Nat
  | [], i, n => if n = [] then none else some (i + 1)
  | r :: rs, i, n => match stepN r n with
    | none => some (i + 1)
    | some n2 => badN rs (i + 1) n2
theorem bad_eq : ∀ (rows : List Str) (i : Nat) (n : List Str), (∀ r ∈ rows, Ln r) → badGo "take" rows i n = badN rows i n
  | [], i, n, _ => rfl
  | r :: rs, i, n, h => by
    have e := step_read (h r (List.mem_cons_self ..)) n
    show (match readS "take" (Txt.split r " ") n with
      | none => some (i + 1)
      | some (_, n2) => badGo "take" rs (i + 1) n2) = (match stepN r n with
      | none => some (i + 1)
      | some n2 => badN rs (i + 1) n2)
    rw [← e]
    cases readS "take" (Txt.split r " ") n with
    | none => rfl
    | some p => exact bad_eq rs (i + 1) p.2 fun x hx => h x (List.mem_cons_of_mem _ hx)
def run : List Str → List Str → Option (List Str)
  | [], n => some n
  | r :: rs, n => match stepN r n with
    | none => none
    | some n2 => run rs n2
theorem badN_app : ∀ {a b : List Str} {i : Nat} {n n2 : List Str}, run a n = some n2 → badN (a ++ b) i n = badN b (i + a.length) n2
  | [], b, i, n, n2, h => by
    cases h
    rfl
  | r :: rs, b, i, n, n2, h => by
    have h' : (match stepN r n with
      | none => none
      | some n2 => run rs n2) = some n2 := h
    show (match stepN r n with
      | none => some (i + 1)
      | some n2 => badN (rs ++ b) (i + 1) n2) = _
    cases e : stepN r n with
    | none => rw [e] at h'; cases h'
    | some n1 =>
      rw [e] at h'
      rw [List.length_cons, show i + (rs.length + 1) = i + 1 + rs.length by omega]
      exact badN_app h'
theorem badN_bad {x : Str} {r n : List Str} {i : Nat} (h : stepN x n = none) : badN (x :: r) i n = some (i + 1) := by
  show (match stepN x n with
    | none => some (i + 1)
    | some n2 => badN r (i + 1) n2) = _
  rw [h]
theorem badN_step {x : Str} {r n n2 : List Str} {i : Nat} (h : stepN x n = some n2) : badN (x :: r) i n = badN r (i + 1) n2 := by
  show (match stepN x n with
    | none => some (i + 1)
    | some n2 => badN r (i + 1) n2) = _
  rw [h]
/-- a drawn line -/
structure DrP (x : Str) : Prop where
  ln : Ln x
  len : x.length ≤ 220
  two : 2 ≤ x.length
/-- drawn rows, each with how deep it stands: from a nest to a nest -/
def OkR : List (Str × Nat) → List Str → List Str → Prop
  | [], n, m => n = m
  | (x, d) :: r, n, m => DrP x ∧ d = n.length ∧ ∃ n2, stepN x n = some n2 ∧ OkR r n2 m
theorem OkR.app : ∀ {a b : List (Str × Nat)} {n m k : List Str}, OkR a n m → OkR b m k → OkR (a ++ b) n k
  | [], b, n, m, k, h, g => by
    have e : n = m := h
    rw [e]
    exact g
  | (x, d) :: r, b, n, m, k, h, g => by
    obtain ⟨h1, h2, n2, h3, h4⟩ := h
    exact ⟨h1, h2, n2, h3, OkR.app h4 g⟩
theorem OkR.cut : ∀ {a b : List (Str × Nat)} {n k : List Str}, OkR (a ++ b) n k → ∃ m, OkR a n m ∧ OkR b m k
  | [], b, n, k, h => ⟨n, rfl, h⟩
  | (x, d) :: r, b, n, k, h => by
    obtain ⟨h1, h2, n2, h3, h4⟩ := h
    obtain ⟨m, h5, h6⟩ := OkR.cut h4
    exact ⟨m, ⟨h1, h2, n2, h3, h5⟩, h6⟩
theorem OkR.run : ∀ {a : List (Str × Nat)} {n m : List Str}, OkR a n m → run (a.map (·.1)) n = some m
  | [], n, m, h => by
    have e : n = m := h
    rw [e]
    rfl
  | (x, d) :: r, n, m, h => by
    obtain ⟨h1, h2, n2, h3, h4⟩ := h
    show (match stepN x n with
      | none => none
      | some n2 => K14.run (r.map (·.1)) n2) = some m
    rw [h3]
    exact OkR.run h4
theorem OkR.all : ∀ {a : List (Str × Nat)} {n m : List Str}, OkR a n m → ∀ p ∈ a, DrP p.1
  | [], n, m, h, p, hp => nomatch hp
  | (x, d) :: r, n, m, h, p, hp => by
    obtain ⟨h1, h2, n2, h3, h4⟩ := h
    rcases List.mem_cons.mp hp with e | hp
    · rw [e]; exact h1
    · exact OkR.all h4 p hp
/-- what stands at a place -/
theorem OkR.at {a : List (Str × Nat)} {n m : List Str} {j : Nat} {x : Str} {d : Nat} (h : OkR a n m) (e : a[j]? = some (x, d)) : ∃ nj n2, OkR (a.take j) n nj ∧ nj.length = d ∧ DrP x ∧ stepN x nj = some n2 ∧ OkR (a.drop (j + 1)) n2 m := by
  have hj := (List.getElem?_eq_some_iff.mp e)
  obtain ⟨hl, hx⟩ := hj
  have s : a = a.take j ++ (x, d) :: a.drop (j + 1) := by
    rw [← hx, ← List.drop_eq_getElem_cons hl, List.take_append_drop]
  rw [s] at h
  obtain ⟨nj, h1, h2⟩ := OkR.cut h
  obtain ⟨h3, h4, n2, h5, h6⟩ := h2
  exact ⟨nj, n2, h1, h4.symm, h3, h5, h6⟩
theorem closed_lines : lineB "else" = false ∧ lineB "end" = false ∧ lineB "" = false ∧ lineB "if" = false ∧ lineB "Quit" = false ∧ ifP "else" = false ∧ ifP "end" = false := by decide +kernel
/-- how deep behind a line -/
def openZ (x : Str) (d : Nat) : Int := (d : Int) + (if ifP x = true then 1 else 0) - (if x = "end" then 1 else 0)
theorem step_len {x : Str} {n n2 : List Str} (h : stepN x n = some n2) : openZ x n.length = (n2.length : Int) := by
  obtain ⟨c1, c2, c3, c4, c5, c6, c7⟩ := closed_lines
  obtain ⟨e1, e2, e3, e4, e5⟩ := els_words
  unfold stepN at h
  unfold openZ
  by_cases h1 : x = "end"
  · subst h1
    rw [if_pos rfl] at h
    by_cases c : n = []
    · rw [if_pos c] at h; cases h
    · rw [if_neg c] at h
      cases h
      have := List.length_pos_iff.mpr c
      rw [c7, if_pos rfl, List.length_dropLast]
      simp
      omega
  rw [if_neg h1] at h
  rw [if_neg h1]
  by_cases h2 : x = "else"
  · subst h2
    rw [if_pos rfl] at h
    by_cases c : n = [] ∨ n.getLast? = some ("else" : Str)
    · rw [if_pos c] at h; cases h
    · rw [if_neg c] at h
      cases h
      have := List.length_pos_iff.mpr fun z => c (.inl z)
      rw [c6, List.length_append, List.length_dropLast, List.length_singleton]
      simp
      omega
  rw [if_neg h2] at h
  by_cases c : lineB x = true
  · rw [if_pos c] at h
    cases h
    by_cases d : ifP x = true
    · rw [if_pos d, if_pos d, List.length_append, List.length_singleton]
      omega
    · rw [if_neg d, if_neg d]
      omega
  · rw [if_neg c] at h; cases h
theorem OkR.last {a : List (Str × Nat)} {x : Str} {d : Nat} {n m : List Str} (h : OkR (a ++ [(x, d)]) n m) : openZ x d = (m.length : Int) := by
  obtain ⟨k, h1, h2⟩ := OkR.cut h
  obtain ⟨h3, h4, n2, h5, h6⟩ := h2
  have e : n2 = m := h6
  rw [h4, ← e]
  exact step_len h5
/-- how a line begins, by its signs -/
def if3 (x : Str) : Bool := decide ((TL.tl x).take 3 = [105, 102, 32])
theorem if_tl : TL.tl ("if" : Str) = [105, 102] := by decide +kernel
theorem if3_eq {x : Str} (h : Ln x) (b : lineB x = true) : if3 x = ifP x := by
  have e := split_tl x
  have ne := split_ne x
  have hw := h.words.1
  unfold if3 ifP
  refine decide_eq_decide.mpr ?_
  cases s : Txt.split x " " with
  | nil => exact absurd s ne
  | cons w0 r =>
    have h0 : 32 ∉ TL.tl w0 := (hw w0 (by rw [s]; exact List.mem_cons_self ..)).sp
    rw [s] at e
    show _ ↔ w0 = "if"
    cases r with
    | nil =>
      have e : TL.tl x = TL.tl w0 := e
      have ex : x = w0 := TL.ext_tl e
      constructor
      · intro z
        have z2 : 32 ∈ (TL.tl w0).take 3 := by rw [← e, z]; decide
        exact absurd (List.take_subset _ _ z2) h0
      · intro z
        rw [ex, z, closed_lines.2.2.2.1] at b
        cases b
    | cons w1 r =>
      have e : TL.tl x = TL.tl w0 ++ ([32] ++ TL.joinL [32] ((w1 :: r).map TL.tl)) := e
      rw [e]
      constructor
      · intro z
        refine TL.ext_tl ?_
        rw [if_tl]
        match q : TL.tl w0, h0, z with
        | [], _, z => cases z
        | [a], _, z =>
          have := (List.cons.inj (List.cons.inj z).2).1
          cases this
        | [a, c], _, z =>
          have z1 := (List.cons.inj z).1
          have z2 := (List.cons.inj (List.cons.inj z).2).1
          rw [z1, z2]
        | a :: c :: d :: t, h0, z =>
          have z3 := (List.cons.inj (List.cons.inj (List.cons.inj z).2).2).1
          exact absurd (by rw [z3]; simp) h0
      · intro z
        rw [z, if_tl]
        rfl
theorem if3_short {x : Str} (h : x = "end" ∨ x = "else") : if3 x = false ∧ ifP x = false := by
  have k : ∀ x ∈ [("end" : Str), "else"], if3 x = false ∧ ifP x = false := by decide +kernel
  exact k x (by rcases h with h | h <;> simp [h])
/-- a line of one sign is none -/
theorem short_no : ∀ c, c < 128 → lineB ⟨#[c]⟩ = false := by decide +kernel
theorem line_two {x : Str} (h : Ln x) (b : lineB x = true) : 2 ≤ x.length := by
  have l : (TL.tl x).length = x.length := rfl
  match q : TL.tl x with
  | [] =>
    have e : x = "" := TL.ext_tl (q.trans (by decide +kernel))
    rw [e, closed_lines.2.2.1] at b
    cases b
  | [c] =>
    have e : x = ⟨#[c]⟩ := TL.ext_tl (q.trans rfl)
    have hc := (h.ok c (by rw [q]; exact List.mem_singleton.mpr rfl)).1
    rw [e, short_no c hc] at b
    cases b
  | a :: c :: t =>
    rw [q] at l
    simp only [List.length_cons] at l
    omega
theorem PlainP.dr {x : Str} (h : PlainP x) : DrP x ∧ ∀ n, stepN x n = some n := by
  refine ⟨⟨h.ln, by have := h.len; omega, line_two h.ln h.ok⟩, fun n => ?_⟩
  unfold stepN
  rw [if_neg h.nend, if_neg h.nels, if_pos h.ok]
  have : ifP x = false := decide_eq_false h.nif
  rw [this]
  rfl
theorem if_ne {x : Str} (h : wd (Txt.split x " ") 0 = "if") : x ≠ "end" ∧ x ≠ "else" := by
  obtain ⟨c1, c2, c3, c4, c5, c6, c7⟩ := closed_lines
  have h : ifP x = true := decide_eq_true h
  constructor
  · intro z; rw [z, c7] at h; cases h
  · intro z; rw [z, c6] at h; cases h
theorem test_dr {s : Str} (h : testP s) : DrP ("if " ++ s) ∧ ∀ n, stepN ("if " ++ s) n = some (n ++ [("if" : Str)]) := by
  obtain ⟨h1, h2, h3, h4⟩ := if_line h
  refine ⟨⟨h1, by omega, line_two h1 h2⟩, fun n => ?_⟩
  obtain ⟨n1, n2⟩ := if_ne h3
  unfold stepN
  rw [if_neg n1, if_neg n2, if_pos h2]
  have : ifP ("if " ++ s) = true := decide_eq_true h3
  rw [this]
  rfl
theorem ends_ln : DrP "end" ∧ DrP "else" := by
  have k : ∀ x ∈ [("end" : Str), "else"], (∀ c ∈ TL.tl x, c < 128 ∧ c ≠ 10) ∧ x.length ≤ 220 ∧ 2 ≤ x.length := by decide +kernel
  have k2 : ∀ x ∈ [("end" : Str), "else"], DrP x := fun x hx => by
    obtain ⟨a, b, c⟩ := k x hx
    exact ⟨⟨a, by omega⟩, b, c⟩
  exact ⟨k2 _ (by simp), k2 _ (by simp)⟩
/-- rows that stand anywhere so deep -/
def OkD (d : Nat) (rows : List (Str × Nat)) : Prop := ∀ n : List Str, n.length = d → OkR rows n n
theorem OkD.nil (d : Nat) : OkD d [] := fun n _ => rfl
theorem OkD.app {d : Nat} {a b : List (Str × Nat)} (h : OkD d a) (g : OkD d b) : OkD d (a ++ b) := fun n e => (h n e).app (g n e)
theorem OkD.plain {d : Nat} {x : Str} (h : PlainP x) : OkD d [(x, d)] := fun n e => ⟨h.dr.1, e.symm, n, h.dr.2 n, rfl⟩
theorem ok_open {d : Nat} {s : Str} (h : testP s) (n : List Str) (e : n.length = d) : OkR [("if " ++ s, d)] n (n ++ [("if" : Str)]) := ⟨(test_dr h).1, e.symm, _, (test_dr h).2 n, rfl⟩
theorem ok_close {d : Nat} {w : Str} (n : List Str) (e : n.length = d) : OkR [(("end" : Str), d + 1)] (n ++ [w]) n := by
  refine ⟨ends_ln.1, by rw [List.length_append, e]; rfl, n, ?_, rfl⟩
  unfold stepN
  rw [if_pos rfl, if_neg (by simp), List.dropLast_concat]
theorem ok_else {d : Nat} (n : List Str) (e : n.length = d) : OkR [(("else" : Str), d + 1)] (n ++ [("if" : Str)]) (n ++ [("else" : Str)]) := by
  refine ⟨ends_ln.2, by rw [List.length_append, e]; rfl, n ++ [("else" : Str)], ?_, rfl⟩
  unfold stepN
  have ne : ¬ (("else" : Str) = "end") := els_words.2.2.2.2
  have ni : ¬ (("if" : Str) = "else") := by decide +kernel
  rw [if_neg ne, if_pos rfl, if_neg (by simp [ni]), List.dropLast_concat]
theorem OkD.iff {d : Nat} {s : Str} {a : List (Str × Nat)} (h : testP s) (ha : OkD (d + 1) a) : OkD d ([("if " ++ s, d)] ++ a ++ [(("end" : Str), d + 1)]) := fun n e =>
  ((ok_open h n e).app (ha _ (by rw [List.length_append, e]; rfl))).app (ok_close n e)
theorem OkD.iff2 {d : Nat} {s : Str} {a b : List (Str × Nat)} (h : testP s) (ha : OkD (d + 1) a) (hb : OkD (d + 1) b) : OkD d ([("if " ++ s, d)] ++ a ++ [(("else" : Str), d + 1)] ++ b ++ [(("end" : Str), d + 1)]) := fun n e =>
  ((((ok_open h n e).app (ha _ (by rw [List.length_append, e]; rfl))).app (ok_else n e)).app (hb _ (by rw [List.length_append, e]; rfl))).app (ok_close n e)
end K14

set_option Elab.async false
set_option linter.all false
set_option maxRecDepth 100000
set_option maxHeartbeats 8000000
/-! k14, the law: readers of lists under draws -/
namespace K14
open PySem L2 K14D
/-- a list of texts, at hand or new -/
def RBL (b c : Addr) (σ : L2.St) (H : Hp) (k : Nat) (t : TE) (PA : List Str → Prop) : Prop :=
  ∀ m H' Q, But b H H' → BagAt c H' b m → m + k ≤ 90000 → (∀ a ts G, PA ts → But b H' G → BagAt c G b (m + k) → G a = some (.lst (ts.map V.str)) → Q (.ref a) G) → t σ H' Q
def RBF (b c : Addr) (σ : L2.St) (H : Hp) (k : Nat) (t : TE) (PA : List Str → Prop) : Prop :=
  ∀ m H' Q, But b H H' → BagAt c H' b m → m + k ≤ 90000 → (∀ a ts G, PA ts → But b H' G → BagAt c G b (m + k) → G a = some (.lst (ts.map V.str)) → H' a = none → Q (.ref a) G) → t σ H' Q
abbrev LsP (PA : List Str → Prop) : List V → Prop := fun xs => ∃ ts : List Str, xs = ts.map V.str ∧ PA ts
/-- a text, its length -/
abbrev LnP (n : Nat) (p : Str → Prop) : V → Prop := TxP fun s => p s ∧ s.length ≤ n
section
variable {b c : Addr} {σ : L2.St} {H : Hp} {k k1 k2 : Nat} {t u : TE} {ta : TA} {K : PySem.W.Frag} {P P' P1 P2 : V → Prop} {PA PB : List Str → Prop}
theorem RBF.l (h : RBF b c σ H k t PA) : RBL b c σ H k t PA := fun m H' Q s B l q => h m H' Q s B l fun a ts G p sG BG g _ => q a ts G p sG BG g
theorem rbl_v {i : Nat} {a : Addr} {ts : List Str} (hv : σ[i]? = some (some (.ref a))) (ha : H a = some (.lst (ts.map V.str))) (ab : a ≠ b) : RBL b c σ H 0 (tVar i) (fun us => us = ts) := fun m H' Q s B l q => ⟨_, hv, q a ts H' rfl (But.refl b H') B (s _ _ ha ab)⟩
theorem rbl_call {ls : List Str} : RBL b c σ H 0 (tCall (spList ls) [] E0 tNil) (fun us => us = ls) := fun m H' Q s B l q => ⟨rfl, fun R G sG gR => q R ls G rfl (but_same sG) (BagAt.keep B sG) gR⟩
theorem rbf_lst (h : RBA b c σ H k ta (LsP PA)) (hn : ∀ ts, PA ts → ts.length ≤ 900) : RBF b c σ H k (tLst ta) PA := fun m H' Q s B l q => by
  refine h m H' _ s B l fun xs G p sG BG => ?_
  obtain ⟨ts, rfl, p⟩ := p
  refine ⟨Nat.le_of_lt (small1000 (by rw [List.length_map]; have := hn ts p; omega)), fun a na => ?_⟩
  exact q a ts _ p (sG.trans (but_same (Same.new na))) (BagAt.keep BG (Same.new na)) upd_same (none_back sG na (BagAt.ne BG na))
theorem rbf_cat (h : RBL b c σ H k1 t PA) (g : RBL b c σ H k2 u PB) (hn : ∀ ts us, PA ts → PB us → ts.length + us.length ≤ 900) : RBF b c σ H (k1 + k2) (tOp rCat t u) (fun ts => ∃ x y, PA x ∧ PB y ∧ ts = x ++ y) := fun m H' Q s B l q => by
  refine h m H' _ s B (by omega) fun a1 t1 G1 p1 s1 B1 g1 => ?_
  refine g (m + k1) G1 _ (s.trans s1) B1 (by omega) fun a2 t2 G2 p2 s2 B2 g2 => ?_
  have n1 := BagAt.nel B1 g1
  refine ⟨a1, a2, _, _, rfl, rfl, s2 _ _ g1 n1, g2, Nat.le_of_lt (small1000 (by rw [List.length_map, List.length_map]; have := hn t1 t2 p1 p2; omega)), fun a na => ?_⟩
  rw [← List.map_append]
  have s12 := s1.trans s2
  exact q a (t1 ++ t2) _ ⟨t1, t2, p1, p2, rfl⟩ (s12.trans (but_same (Same.new na))) (by rw [← Nat.add_assoc]; exact BagAt.keep B2 (Same.new na)) upd_same (none_back s12 na (BagAt.ne B2 na))
theorem RBF.mono (h : RBF b c σ H k t PA) (i : ∀ ts, PA ts → PB ts) : RBF b c σ H k t PB := fun m H' Q s B l q => h m H' Q s B l fun a ts G p sG BG g n => q a ts G (i ts p) sG BG g n
theorem RBL.mono (h : RBL b c σ H k t PA) (i : ∀ ts, PA ts → PB ts) : RBL b c σ H k t PB := fun m H' Q s B l q => h m H' Q s B l fun a ts G p sG BG g => q a ts G (i ts p) sG BG g
theorem rb_ixl {pn : Nat → Prop} (h : RBL b c σ H k1 t PA) (g : RB b c σ H k2 u (NmP pn)) (hn : ∀ ts i, PA ts → pn i → i < ts.length) : RB b c σ H (k1 + k2) (tOp (rIxL K) t u) (TxP fun s => ∃ ts i, PA ts ∧ pn i ∧ ts[i]? = some s) := fun m H' Q s B l q => by
  refine h m H' _ s B (by omega) fun a ts G1 p1 s1 B1 g1 => ?_
  refine g (m + k1) G1 _ (s.trans s1) B1 (by omega) fun x G2 p2 s2 B2 => ?_
  obtain ⟨i, rfl, p2⟩ := p2
  have hi := hn ts i p1 p2
  have e : ts[i]? = some ts[i] := List.getElem?_eq_getElem hi
  refine ⟨a, _, _, .str ts[i], rfl, rfl, SqL.of (s2 _ _ g1 (BagAt.nel B1 g1)), atI_nat (j := i) (by rw [List.getElem?_map, e]; rfl), ?_⟩
  exact q _ G2 ⟨_, rfl, ts, i, p1, p2, e⟩ (s1.trans s2) (by rw [← Nat.add_assoc]; exact B2)
theorem ls_nil : RBA b c σ H 0 tNil (LsP fun ts => ts = []) := fun m H' Q s B l q => q [] H' ⟨[], rfl, rfl⟩ (But.refl b H') B
theorem ls_cons {p : Str → Prop} (h : RB b c σ H k1 t (TxP p)) (g : RBA b c σ H k2 ta (LsP PA)) : RBA b c σ H (k1 + k2) (tCons t ta) (LsP fun ts => ∃ x r, ts = x :: r ∧ p x ∧ PA r) :=
  (rba_cons h g).mono fun xs ⟨y, ys, e, ⟨x, ex, px⟩, r, er, pr⟩ => ⟨x :: r, by rw [e, ex, er]; rfl, x, r, rfl, px, pr⟩
theorem tx_c (x : Str) : RB b c σ H 0 (tC (.str x)) (TxP fun s => s = x) := (rb_c (.str x)).mono fun y e => ⟨x, e, rfl⟩
theorem tx_v {i : Nat} {x : Str} (hv : σ[i]? = some (some (.str x))) : RB b c σ H 0 (tVar i) (TxP fun s => s = x) := (rb_v hv).mono fun y e => ⟨x, e, rfl⟩
theorem nm_c (n : Nat) : RB b c σ H 0 (tC (.int (n : Nat))) (NmP fun j => j = n) := (rb_c (.int (n : Nat))).mono fun y e => ⟨n, e, rfl⟩
theorem tx_ln {n : Nat} {p : Str → Prop} (h : RB b c σ H k t (TxP p)) (l : ∀ s, p s → s.length ≤ n) : RB b c σ H k t (LnP n p) := h.mono fun x ⟨s, e, ps⟩ => ⟨s, e, ps, l s ps⟩
theorem ln_cat {n1 n2 : Nat} {p1 p2 : Str → Prop} (h : RB b c σ H k1 t (LnP n1 p1)) (g : RB b c σ H k2 u (LnP n2 p2)) (hn : n1 + n2 ≤ 1000) : RB b c σ H (k1 + k2) (tOp rAddS t u) (LnP (n1 + n2) fun s => ∃ x y, p1 x ∧ p2 y ∧ s = x ++ y) :=
  (rs_cat h g fun x y px py => by have := px.2; have := py.2; omega).mono fun x ⟨s, e, y, z, py, pz, es⟩ => ⟨s, e, ⟨y, z, py.1, pz.1, es⟩, by rw [es, add_len]; have := py.2; have := pz.2; omega⟩
/-- a text out of a list at hand -/
theorem tx_li {v i : Nat} {a : Addr} {ts : List Str} {s : Str} (hv : σ[v]? = some (some (.ref a))) (ha : H a = some (.lst (ts.map V.str))) (ab : a ≠ b) (hs : ts[i]? = some s) : RB b c σ H 0 (tOp (rIxL K) (tVar v) (tC (.int (i : Nat)))) (TxP fun x => x = s) :=
  (rb_ixl (rbl_v hv ha ab) (nm_c i) (fun us j e1 e2 => by subst e1 e2; exact (List.getElem?_eq_some_iff.mp hs).1)).mono fun x ⟨y, e, us, j, e1, e2, q⟩ => ⟨y, e, by subst e1 e2; exact Option.some.inj (q.symm.trans hs)⟩
/-- one of two texts -/
theorem tx_two {v : Nat} {x y : Str} (hv : σ[v]? = some (some (.ref b))) : RB b c σ H 1 (tOp (rIxL K) (tLst (tCons (tC (.str x)) (tCons (tC (.str y)) tNil))) (tCall spDraw [] E0 (tCons (tVar v) (tCons (tC (.int 2)) tNil)))) (TxP fun s => s = x ∨ s = y) :=
  (rb_ixl (rbf_lst (ls_cons (tx_c x) (ls_cons (tx_c y) ls_nil)) (fun ts ⟨a, r, e, _, d, q, e2, _, e3⟩ => by subst e e2 e3; exact (show 2 ≤ 900 by decide))).l (rb_d (n := 2) hv (by decide) (by decide)) (fun ts j ⟨a, r, e, _, d, q, e2, _, e3⟩ h => by subst e e2 e3; exact h)).mono
    fun z ⟨s, e, ts, j, ⟨a, r, e1, ea, d, q, e2, ed, e3⟩, hj, hs⟩ => ⟨s, e, by
      subst e1 e2 e3 ea ed
      rcases List.mem_cons.mp (List.mem_of_getElem? hs) with h | h
      · exact .inl h
      · exact .inr (List.mem_singleton.mp h)⟩
/-- lists of drawn lines -/
abbrev AllP (n : Nat) : List Str → Prop := fun ts => ts.length = n ∧ ∀ t ∈ ts, PlainP t
theorem rp_nil : RBA b c σ H 0 tNil (LsP (AllP 0)) := ls_nil.mono fun xs ⟨ts, e, e2⟩ => ⟨ts, e, by subst e2; exact ⟨rfl, fun t h => (nomatch h)⟩⟩
theorem rp_cons {n : Nat} (h : RB b c σ H k1 t (TxP PlainP)) (g : RBA b c σ H k2 ta (LsP (AllP n))) : RBA b c σ H (k1 + k2) (tCons t ta) (LsP (AllP (n + 1))) :=
  (ls_cons h g).mono fun xs ⟨ts, e, x, r, e2, px, pr⟩ => ⟨ts, e, by
    subst e2
    refine ⟨by rw [List.length_cons, pr.1], fun t ht => ?_⟩
    rcases List.mem_cons.mp ht with q | q
    · rw [q]; exact px
    · exact pr.2 t q⟩
theorem rp_lst {n : Nat} (h : RBA b c σ H k ta (LsP (AllP n))) (hn : n ≤ 900) : RBF b c σ H k (tLst ta) (AllP n) := rbf_lst h fun ts p => by rw [p.1]; exact hn
theorem rp_cat {n1 n2 v : Nat} {a : Addr} {ts : List Str} (hv : σ[v]? = some (some (.ref a))) (ha : H a = some (.lst (ts.map V.str))) (ab : a ≠ b) (hp : AllP n1 ts) (g : RBA b c σ H k ta (LsP (AllP n2))) (hn : n1 + n2 ≤ 900) : RBF b c σ H (0 + k) (tOp rCat (tVar v) (tLst ta)) (AllP (n1 + n2)) :=
  (rbf_cat (rbl_v hv ha ab) (rp_lst g (by omega)).l (fun x y e p => by subst e; rw [hp.1, p.1]; exact hn)).mono fun us ⟨x, y, e, p, e2⟩ => by
    subst e e2
    refine ⟨by rw [List.length_append, hp.1, p.1], fun t ht => ?_⟩
    exact (List.mem_append.mp ht).elim (hp.2 t) (p.2 t)
theorem to_plain {n : Nat} {p : Str → Prop} (h : RB b c σ H k t (LnP n p)) (i : ∀ s, p s → PlainP s) : RB b c σ H k t (TxP PlainP) := h.mono fun x ⟨s, e, ps⟩ => ⟨s, e, i s ps.1⟩
theorem ln_v {i n : Nat} {x : Str} (hv : σ[i]? = some (some (.str x))) (l : x.length ≤ n) : RB b c σ H 0 (tVar i) (LnP n fun s => s = x) := tx_ln (tx_v hv) fun s e => by rw [e]; exact l
theorem ln_c {n : Nat} (x : Str) (l : x.length ≤ n) : RB b c σ H 0 (tC (.str x)) (LnP n fun s => s = x) := tx_ln (tx_c x) fun s e => by rw [e]; exact l
theorem ln_li {v i n : Nat} {a : Addr} {ts : List Str} {s : Str} (hv : σ[v]? = some (some (.ref a))) (ha : H a = some (.lst (ts.map V.str))) (ab : a ≠ b) (hs : ts[i]? = some s) (l : s.length ≤ n) : RB b c σ H 0 (tOp (rIxL K) (tVar v) (tC (.int (i : Nat)))) (LnP n fun x => x = s) := tx_ln (tx_li hv ha ab hs) fun x e => by rw [e]; exact l
theorem ln_sum {v : Nat} (hv : σ[v]? = some (some (.ref b))) : RB b c σ H 21 (tCall (spTx 21 sumP) [] E0 (tCons (tVar v) tNil)) (LnP 132 sumP) := tx_ln (rb_tx hv) fun s ⟨_, _, _, _, _, l⟩ => l
end
end K14

set_option Elab.async false
set_option linter.all false
set_option maxRecDepth 100000
set_option maxHeartbeats 8000000
/-! k14, the law: lines drawn, within one another -/
namespace K14
open PySem L2 K14D
abbrev sDLines : Stmt := top 69
def intL (ls : List Int) : List V := ls.map V.int
/-- the rows: tuples of a line and how deep it stands -/
def RowsAt (H : Hp) : List V → List (Str × Nat) → Prop
  | [], [] => True
  | v :: vs, p :: r => (∃ a, v = .ref a ∧ H a = some (.tup [.str p.1, .int (p.2 : Nat)])) ∧ RowsAt H vs r
  | _, _ => False
theorem RowsAt.keep {H G : Hp} (k : ∀ (a : Addr) (xs : List V), H a = some (.tup xs) → G a = some (.tup xs)) : ∀ {vs : List V} {rows : List (Str × Nat)}, RowsAt H vs rows → RowsAt G vs rows
  | [], [], _ => trivial
  | v :: vs, p :: r, ⟨⟨a, e, h⟩, t⟩ => ⟨⟨a, e, k _ _ h⟩, RowsAt.keep k t⟩
theorem RowsAt.app {H : Hp} : ∀ {vs us : List V} {r s : List (Str × Nat)}, RowsAt H vs r → RowsAt H us s → RowsAt H (vs ++ us) (r ++ s)
  | [], us, [], s, _, h => h
  | v :: vs, us, p :: r, s, ⟨a, t⟩, h => ⟨a, RowsAt.app t h⟩
theorem RowsAt.one {H : Hp} {a : Addr} {x : Str} {d : Nat} (h : H a = some (.tup [.str x, .int (d : Nat)])) : RowsAt H [.ref a] [(x, d)] := ⟨⟨a, rfl, h⟩, trivial⟩
theorem RowsAt.len {H : Hp} : ∀ {vs : List V} {r : List (Str × Nat)}, RowsAt H vs r → vs.length = r.length
  | [], [], _ => rfl
  | v :: vs, p :: r, ⟨_, t⟩ => congrArg (· + 1) (RowsAt.len t)
/-- all but two is kept -/
def Fr (b L : Addr) (G G' : Hp) : Prop := ∀ x o, G x = some o → x ≠ b → x ≠ L → G' x = some o
theorem Fr.refl (b L : Addr) (G : Hp) : Fr b L G G := fun _ _ h _ _ => h
theorem Fr.trans {b L : Addr} {A B C : Hp} (h : Fr b L A B) (k : Fr b L B C) : Fr b L A C := fun x o e n1 n2 => k x o (h x o e n1 n2) n1 n2
theorem Fr.same {b L : Addr} {G G' : Hp} (s : Same G G') : Fr b L G G' := fun x o e _ _ => s x o e
theorem Fr.but {b L : Addr} {G G' : Hp} (s : But b G G') : Fr b L G G' := fun x o e n _ => s x o e n
theorem Fr.updL {b L : Addr} {G : Hp} {o : HO} : Fr b L G (upd G L o) := fun x u e _ n => by
  rw [upd_ne n]
  exact e
theorem Fr.write {b L a : Addr} {H G : Hp} {o : HO} (f : Fr b L H G) (h : H a = none) : Fr b L H (upd G a o) := fun x u e n1 n2 => by
  rw [upd_ne (fun z => by rw [z, h] at e; cases e)]
  exact f x u e n1 n2
theorem bag_dk {c : Addr} {H : Hp} {b : Addr} {m : Nat} (B : BagAt c H b m) : ∃ kvs, H b = some (.dK kvs) := by
  obtain ⟨ns, p, q, r, z, B⟩ := B
  exact ⟨_, B.at_⟩
theorem bag_cs {c : Addr} {H : Hp} {b : Addr} {m : Nat} (B : BagAt c H b m) : ∃ xs, H c = some (.lst xs) := by
  obtain ⟨ns, p, q, r, z, B⟩ := B
  exact ⟨_, B.cs⟩
/-- tuples are kept where all but the bag and a list are -/
theorem Fr.tup {b L c : Addr} {G G' : Hp} {m : Nat} {ys : List V} (f : Fr b L G G') (B : BagAt c G b m) (hL : G L = some (.lst ys)) : ∀ (a : Addr) (xs : List V), G a = some (.tup xs) → G' a = some (.tup xs) := fun a xs h => by
  obtain ⟨kvs, eb⟩ := bag_dk B
  exact f _ _ h (fun z => by rw [z, eb] at h; cases h) (fun z => by rw [z, hL] at h; cases h)
/-- the list that is made, between two steps -/
structure Md (H G : Hp) (b L c F : Addr) (vs : List V) (rows : List (Str × Nat)) (m : Nat) (ls : List Int) : Prop where
  hF : H F = none
  gF : G F = some (.lst vs)
  rw : RowsAt G vs rows
  bag : BagAt c G b m
  fr : Fr b L H G
  gL : G L = some (.lst (intL ls))
  Fb : F ≠ b
  FL : F ≠ L
  Fc : F ≠ c
  bL : b ≠ L
  cL : c ≠ L
theorem Md.moved {H G G1 : Hp} {b L c F : Addr} {vs : List V} {rows : List (Str × Nat)} {m m1 : Nat} {ls ls1 : List Int} (M : Md H G b L c F vs rows m ls) (f : Fr b L G G1) (B : BagAt c G1 b m1) (gL : G1 L = some (.lst (intL ls1))) : Md H G1 b L c F vs rows m1 ls1 :=
  ⟨M.hF, f _ _ M.gF M.Fb M.FL, M.rw.keep (f.tup M.bag M.gL), B, M.fr.trans f, gL, M.Fb, M.FL, M.Fc, M.bL, M.cL⟩
theorem Md.but {H G G1 : Hp} {b L c F : Addr} {vs : List V} {rows : List (Str × Nat)} {m m1 : Nat} {ls : List Int} (M : Md H G b L c F vs rows m ls) (s : But b G G1) (B : BagAt c G1 b m1) : Md H G1 b L c F vs rows m1 ls :=
  M.moved (Fr.but s) B (s _ _ M.gL M.bL.symm)
theorem Md.pop {H G : Hp} {b L c F : Addr} {vs : List V} {rows : List (Str × Nat)} {m : Nat} {ls ls1 : List Int} (M : Md H G b L c F vs rows m ls) : Md H (upd G L (.lst (intL ls1))) b L c F vs rows m ls1 :=
  M.moved Fr.updL (bag_write M.bag M.bL.symm M.cL.symm) upd_same
theorem Md.push {H G : Hp} {b L c F a : Addr} {vs : List V} {rows : List (Str × Nat)} {m : Nat} {ls : List Int} {x : Str} {d : Nat} (M : Md H G b L c F vs rows m ls) (h : G a = some (.tup [.str x, .int (d : Nat)])) : Md H (upd G F (.lst (vs ++ [.ref a]))) b L c F (vs ++ [.ref a]) (rows ++ [(x, d)]) m ls := by
  have k : ∀ (q : Addr) (xs : List V), G q = some (.tup xs) → upd G F (.lst (vs ++ [.ref a])) q = some (.tup xs) := fun q xs e => by
    rw [upd_ne (fun z => by rw [z, M.gF] at e; cases e)]
    exact e
  exact ⟨M.hF, upd_same, (M.rw.keep k).app (RowsAt.one (k _ _ h)), bag_write M.bag M.Fb M.Fc, M.fr.write M.hF, by rw [upd_ne M.FL.symm]; exact M.gL, M.Fb, M.FL, M.Fc, M.bL, M.cL⟩
theorem Md.cat {H G : Hp} {b L c F p : Addr} {vs us : List V} {rows rs : List (Str × Nat)} {m : Nat} {ls : List Int} (M : Md H G b L c F vs rows m ls) (R : RowsAt G us rs) (np : G p = none) : Md H (upd G p (.lst (vs ++ us))) b L c p (vs ++ us) (rows ++ rs) m ls := by
  have s := Same.new (o := .lst (vs ++ us)) np
  have k : ∀ (q : Addr) (xs : List V), G q = some (.tup xs) → upd G p (.lst (vs ++ us)) q = some (.tup xs) := fun q xs e => s _ _ e
  obtain ⟨kvs, eb⟩ := bag_dk M.bag
  have pb : p ≠ b := (ne_of_none eb np).symm
  have pL : p ≠ L := (ne_of_none M.gL np).symm
  have hp : H p = none := by
    cases e : H p with
    | none => rfl
    | some o =>
      have z := M.fr _ _ e pb pL
      rw [np] at z
      cases z
  exact ⟨hp, upd_same, (M.rw.app R).keep k, M.bag.keep s, M.fr.trans (Fr.same s), s _ _ M.gL, pb, pL, bag_cells M.bag np, M.bL, M.cL⟩
/-- the state between two turns -/
structure LS (H G : Hp) (b L c : Addr) (deep m : Nat) (ls : List Int) (i x : Nat) (F : Addr) (vs : List V) (rows : List (Str × Nat)) (m' : Nat) (ls' : List Int) : Prop where
  md : Md H G b L c F vs rows m' ls'
  mm : m' + 938 * ls'.length ≤ m + 1 + 117 * i + x + 938 * ls.length
  cnt : ls'.length ≤ ls.length
  siz : rows.length + 24 * ls'.length ≤ 3 * i + 24 * ls.length
  ok : OkD deep rows
def spDL (n : Nat) : Sp := fun vs H Q _ => ∃ (b L c : Addr) (deep m : Nat) (ls : List Int), vs = [.ref b, .int (deep : Nat), .ref L] ∧ deep + n = 3 ∧ BagAt c H b m ∧ c ≠ L ∧ m + 469 + 938 * ls.length ≤ 90000 ∧ H L = some (.lst (intL ls)) ∧ ls.length ≤ 6 ∧
  ∀ (R : Addr) (H' : Hp) (us : List V) (rows : List (Str × Nat)) (m' : Nat) (ls' : List Int), H R = none → H' R = some (.lst us) → RowsAt H' us rows → BagAt c H' b m' → m' + 938 * ls'.length ≤ m + 469 + 938 * ls.length → Fr b L H H' → H' L = some (.lst (intL ls')) →
    ls'.length ≤ ls.length → rows.length + 24 * ls'.length ≤ 12 + 24 * ls.length → OkD deep rows → Q (.ref R) H'
theorem dpInts {K : PySem.W.Frag} {H : Hp} : ∀ ls : List Int, DpAll K H (intL ls) (ls.map PyData.int)
  | [] => .nil
  | x :: xs => .cons (.int x) (dpInts xs)
theorem layInts : ∀ ls : List Int, PyData.canLayAll0 (ls.map PyData.int) = true
  | [] => rfl
  | x :: xs => by
    rw [List.map_cons, PyData.canLayAll0, Bool.and_eq_true]
    exact ⟨by simp [PyData.canLay0], layInts xs⟩
theorem depInts : ∀ ls : List Int, PyData.depthAll (ls.map PyData.int) = 0
  | [] => rfl
  | x :: xs => by
    rw [List.map_cons]
    simp only [PyData.depthAll, PyData.depth, depInts xs]
    decide
theorem shapedInts (ls : List Int) : SeqAt.shaped (.list (ls.map PyData.int)) = true := by
  unfold SeqAt.shaped
  have h1 : (PyData.list (ls.map PyData.int)).canLay0 = true := by
    simp only [PyData.canLay0]
    exact layInts ls
  have h2 : (PyData.list (ls.map PyData.int)).depth ≤ 64 := by
    simp only [PyData.depth, depInts]
    decide
  rw [h1, decide_eq_true h2]
  rfl
section
variable {P : Program} {w : World} {K : PySem.W.Frag} {mg : Str → Option Value} {base : Heap}
abbrev nmDL : List Str := ["_law_bag_here", "_law_deep", "_law_left", "_law_found", "_law_turn"]
theorem scDL : FnScope nmDL ["_law_bag_here", "_law_deep", "_law_left"] (defScope sDLines) := ⟨rfl, rfl, rfl, by decide +kernel, rfl, by decide +kernel, by decide +kernel⟩
def forBody : Stmt → List Stmt
  | .For _ _ b _ _ => b
  | _ => []
def ifBody : Stmt → List Stmt
  | .If _ b _ _ => b
  | _ => []
def ifElse : Stmt → List Stmt
  | .If _ _ e _ => e
  | _ => []
abbrev dlFor : Stmt := (defBody sDLines).getD 1 passS
abbrev dlSuite : List Stmt := ifBody ((forBody dlFor).getD 0 passS)
abbrev dlElse : List Stmt := ifElse ((forBody dlFor).getD 0 passS)
/-- a tuple of a drawn line and a number -/
theorem tup_new {b c : Addr} {σ : L2.St} {H : Hp} {k d : Nat} {t u : TE} {p : Str → Prop} (h : RB b c σ H k t (TxP p)) (h2 : ∀ (G : Hp) (Q : VK), Q (.int (d : Nat)) G → u σ G Q) {m : Nat} {Q : VK} (B : BagAt c H b m) (l : m + k ≤ 90000)
    (q : ∀ (a : Addr) (x : Str) (G : Hp), p x → But b H G → BagAt c G b (m + k) → G a = some (.tup [.str x, .int (d : Nat)]) → Q (.ref a) G) : tTup (tCons t (tCons u tNil)) σ H Q := by
  refine h m H _ (But.refl b H) B l fun x G px sG BG => ?_
  obtain ⟨x, rfl, px⟩ := px
  refine h2 _ _ ?_
  refine ⟨(by show 2 ≤ sizeLine; decide), fun a na => ?_⟩
  have s := Same.new (o := .tup [.str x, .int (d : Nat)]) na
  exact q a x _ px (sG.trans (but_same s)) (BagAt.keep BG s) upd_same
theorem cap900 : ∀ x : Nat, x ≤ 900 → x ≤ sizeLine := fun x hx => Nat.le_of_lt (small1000 (by omega))
end
end K14

set_option Elab.async false
set_option linter.all false
set_option maxRecDepth 100000
set_option maxHeartbeats 8000000
/-! k14, the law: lines drawn, the contract -/
namespace K14
open PySem L2 K14D
section
variable {P : Program} {w : World} {K : PySem.W.Frag} {mg : Str → Option Value} {base : Heap}
theorem ok_dl {f fD fT fP : Addr} {fd fdD fdT fdP : FuncData} (F : Fun K "_law_lines" "_law_lines" sDLines f fd) (T : TxtB mg)
    (GD : FnOk P w K mg base CX0 1 fD fdD ["_law_bag_here", "_law_limit"] spDraw) (kD : PySem.W.keepIn K (.ref fD) = true) (bD : Binds K fdD ["_law_bag_here", "_law_limit"] []) (gD : mg "_law_draw" = some (.ref fD))
    (GT : FnOk P w K mg base CX0 3 fT fdT ["_law_bag_here"] (spTx 45 testP)) (kT : PySem.W.keepIn K (.ref fT) = true) (bT : Binds K fdT ["_law_bag_here"] []) (gT : mg "_law_test" = some (.ref fT))
    (GP : FnOk P w K mg base CX0 4 fP fdP ["_law_bag_here"] (spTx 116 PlainP)) (kP : PySem.W.keepIn K (.ref fP) = true) (bP : Binds K fdP ["_law_bag_here"] []) (gP : mg "_law_plain" = some (.ref fP))
    (gf : mg "_law_lines" = some (.ref f)) (bf : Binds K fd ["_law_bag_here", "_law_deep", "_law_left"] []) (n : Nat)
    (ihh : ∀ k, n = k + 1 → FnOk P w K mg base CX0 (k + 5) f fd ["_law_bag_here", "_law_deep", "_law_left"] (spDL k)) : FnOk P w K mg base CX0 (n + 5) f fd ["_law_bag_here", "_law_deep", "_law_left"] (spDL n) := by
  refine F.ok scDL (fun vs H Q E h => ?_) (fun cdv A outer s H vs Q E hr h => ?_)
  · obtain ⟨b, L, c, deep, m, ls, rfl, _⟩ := h
    rfl
  · obtain ⟨b, L, c, deep, m, ls, rfl, hd, hB, hcL, hm, hL, hll, k⟩ := h
    have hr1 : Room 1 _ := hr.mono (by omega)
    have hr3 : Room 3 _ := hr.mono (by omega)
    have hr4 : Room 4 _ := hr.mono (by omega)
    obtain ⟨tS, pS, rS⟩ : ∃ tS, PSs (cxOf CX0 P w K mg base nmDL "_law_lines" (defScope sDLines) f cdv A outer s H E).nox dlSuite tS ∧
        ∀ (D : Ends) (H0 G : Hp) (i : Nat) (F : Addr) (vs : List V) (rows : List (Str × Nat)) (m' : Nat) (ls' : List Int) (v4 : Option V), LS H0 G b L c deep m ls i 1 F vs rows m' ls' → deep < 3 → ls' ≠ [] → i < 4 →
          (∀ (G : Hp) (F : Addr) (vs : List V) (rows : List (Str × Nat)) (m' : Nat) (ls' : List Int), LS H0 G b L c deep m ls (i + 1) 0 F vs rows m' ls' → D.nx [some (.ref b), some (.int (deep : Nat)), some (.ref L), some (.ref F), v4] G) →
          tS D [some (.ref b), some (.int (deep : Nat)), some (.ref L), some (.ref F), v4] G := by
      cases n with
      | zero => exact ⟨_, PSs.ghost, fun D H0 G i F vs rows m' ls' v4 _ z => absurd z (by omega)⟩
      | succ n =>
      have ih := ihh n rfl
      have hrn : Room (n + 5) _ := hr.mono (by omega)
      refine ⟨_, pss_cons (ps_expr (pe_bm0 PySem.F.plainAttrs_list PySem.F.slot_list_pop PySem.F.type_list_pop mt_pop (pv 2)))
        (pss_cons (ps_expr (pe_bm PySem.F.plainAttrs_list PySem.F.slot_list_append PySem.F.type_list_append mt_append (pv 3) (pa_cons (pe_tup (pa_cons (pe_op op_add_str pe_str (pe_call GT hr3 rfl gT kT bT .nil pass0 (pa_cons (pv 0) pa_nil))) (pa_cons (pv 1) pa_nil))) pa_nil)))
        (pss_cons (ps_set (i := 3) scDL.nd rfl (.inl rfl) (pe_op op_cat (pv 3) (pe_call ih hrn rfl gf F.kp bf .nil pass0 (pa_cons (pv 0) (pa_cons (pe_op op_add (pv 1) pe_int) (pa_cons (pv 2) pa_nil))))))
        (pss_cons (ps_if (pt_cmpR op_eq (pe_call GD hr1 rfl gD kD bD .nil pass0 (pa_cons (pv 0) (pa_cons pe_int pa_nil))) pe_int (nomark _))
          (pss_cons (ps_expr (pe_bm PySem.F.plainAttrs_list PySem.F.slot_list_append PySem.F.type_list_append mt_append (pv 3) (pa_cons (pe_tup (pa_cons pe_str (pa_cons (pe_op op_add (pv 1) pe_int) pa_nil))) pa_nil)))
          (pss_one (ps_set (i := 3) scDL.nd rfl (.inl rfl) (pe_op op_cat (pv 3) (pe_call ih hrn rfl gf F.kp bf .nil pass0 (pa_cons (pv 0) (pa_cons (pe_op op_add (pv 1) pe_int) (pa_cons (pv 2) pa_nil)))))))) pss_nil)
        (pss_one (ps_expr (pe_bm PySem.F.plainAttrs_list PySem.F.slot_list_append PySem.F.type_list_append mt_append (pv 3) (pa_cons (pe_tup (pa_cons pe_str (pa_cons (pe_op op_add (pv 1) pe_int) pa_nil))) pa_nil))))))), ?_⟩
      intro D H0 G i F vs rows m' ls' v4 S hdeep hne hi hnx
      have M := S.md
      have hmm := S.mm
      have hcnt := S.cnt
      have hsiz := S.siz
      have hvl := M.rw.len
      have hlsp : 0 < ls'.length := List.length_pos_iff.mpr hne
      obtain ⟨xl, hxl⟩ : ∃ xl, ls'.getLast? = some xl := by
        cases e : ls'.getLast? with
        | none => exact absurd (List.getLast?_eq_none_iff.mp e) hne
        | some x => exact ⟨x, rfl⟩
      have hlast : (intL ls')[(intL ls').length - 1]? = some (V.int xl) := by
        unfold intL
        rw [List.length_map, List.getElem?_map, ← List.getLast?_eq_getElem?, hxl]
        rfl
      refine ⟨_, rfl, .inl ⟨rfl, _, SqL.of M.gL⟩, L, _, _, rfl, rfl, M.gL, hlast, ?_⟩
      have hdl : (intL ls').dropLast = intL ls'.dropLast := by
        unfold intL
        rw [List.map_dropLast]
      rw [hdl]
      have M1 := M.pop (ls1 := ls'.dropLast)
      have hdlen : ls'.dropLast.length = ls'.length - 1 := List.length_dropLast
      generalize upd G L (.lst (intL ls'.dropLast)) = G1 at M1 ⊢
      generalize ls'.dropLast = l1 at M1 hdlen ⊢
      have z3 : ("if " : Str).length = 3 := by decide +kernel
      have rt := rs_cat (b := b) (c := c) (σ := [some (.ref b), some (.int (deep : Nat)), some (.ref L), some (.ref F), v4]) (H := G1) (k1 := 0) (k2 := 45) (tx_c ("if " : Str)) (rb_tx (i := 0) (k := 45) (p := testP) rfl) (fun x y e h => by
        obtain ⟨gs, _, _, _, _, h⟩ := h
        subst e
        omega)
      refine ⟨_, rfl, .inl ⟨rfl, _, SqL.of M1.gF⟩, ?_⟩
      refine tup_new (d := deep) rt (fun G Q q => ⟨_, rfl, q⟩) M1.bag (by omega) fun a x G2 px s2 B2 g2 => ?_
      obtain ⟨x1, tt, rfl, htt, rfl⟩ := px
      have M2 := M1.but s2 B2
      refine ⟨F, _, _, rfl, rfl, M2.gF, small1000 (by omega), ?_⟩
      have M2 := M2.push g2
      generalize upd G2 F (.lst (vs ++ [.ref a])) = G3 at M2 ⊢
      refine ⟨_, rfl, _, rfl, _, rfl, _, _, rfl, rfl, _, rfl, b, L, c, deep + 1, m' + (0 + 45), l1, rfl, by omega, M2.bag, M2.cL, by omega, M2.gL, by omega, fun R G4 us rs m4 l4 nR gR RR B4 hm4 f4 gL4 hc4 hs4 ok4 => ?_⟩
      have M3 := M2.moved f4 B4 gL4
      have hul := RR.len
      refine ⟨F, R, _, _, rfl, rfl, M3.gF, gR, cap900 _ (by rw [List.length_append, List.length_singleton]; omega), fun p np => ?_⟩
      have M4 := M3.cat RR np
      generalize upd G4 p (.lst (vs ++ [.ref a] ++ us)) = G5 at M4 ⊢
      refine ⟨_, rfl, b, c, 2, m4, rfl, M4.bag, by omega, by decide, by decide, fun r G6 r0 r1 B6 s6 => ?_⟩
      have M5 := M4.but s6 B6
      refine ⟨rfl, _, rfl, ?_⟩
      refine ite2 (fun h2 => ?_) (fun h2 => ?_)
      · refine ⟨_, rfl, .inl ⟨rfl, _, SqL.of M5.gF⟩, ?_⟩
        refine tup_new (b := b) (c := c) (k := 0) (d := deep + 1) (p := fun s => s = "else") (tx_c ("else" : Str)) (fun G Q q => ⟨_, rfl, _, _, rfl, rfl, q⟩) M5.bag (by omega) fun a2 x2 G7 px2 s7 B7 g7 => ?_
        subst px2
        have M6 := M5.but s7 B7
        refine ⟨p, _, _, rfl, rfl, M6.gF, small1000 (by simp only [List.length_append, List.length_singleton]; omega), ?_⟩
        have M6 := M6.push g7
        generalize upd G7 p (.lst (vs ++ [.ref a] ++ us ++ [.ref a2])) = G8 at M6 ⊢
        refine ⟨_, rfl, _, rfl, _, rfl, _, _, rfl, rfl, _, rfl, b, L, c, deep + 1, m4 + 1 + 0, l4, rfl, by omega, M6.bag, M6.cL, by omega, M6.gL, by omega, fun R2 G9 us2 rs2 m9 l9 nR2 gR2 RR2 B9 hm9 f9 gL9 hc9 hs9 ok9 => ?_⟩
        have M7 := M6.moved f9 B9 gL9
        have hul2 := RR2.len
        refine ⟨p, R2, _, _, rfl, rfl, M7.gF, gR2, cap900 _ (by simp only [List.length_append, List.length_singleton]; omega), fun p2 np2 => ?_⟩
        have M8 := M7.cat RR2 np2
        generalize upd G9 p2 (.lst (vs ++ [.ref a] ++ us ++ [.ref a2] ++ us2)) = G10 at M8 ⊢
        refine ⟨_, rfl, .inl ⟨rfl, _, SqL.of M8.gF⟩, ?_⟩
        refine tup_new (b := b) (c := c) (k := 0) (d := deep + 1) (p := fun s => s = "end") (tx_c ("end" : Str)) (fun G Q q => ⟨_, rfl, _, _, rfl, rfl, q⟩) M8.bag (by omega) fun a3 x3 G11 px3 s11 B11 g11 => ?_
        subst px3
        have M9 := M8.but s11 B11
        refine ⟨p2, _, _, rfl, rfl, M9.gF, small1000 (by simp only [List.length_append, List.length_singleton]; omega), ?_⟩
        refine hnx _ p2 _ _ _ l9 ⟨M9.push g11, by omega, by omega, ?_, ?_⟩
        · simp only [List.length_append, List.length_singleton]
          omega
        · have z := S.ok.app (OkD.iff2 htt ok4 ok9)
          simp only [List.append_assoc] at z ⊢
          exact z
      · refine ⟨_, rfl, .inl ⟨rfl, _, SqL.of M5.gF⟩, ?_⟩
        refine tup_new (b := b) (c := c) (k := 0) (d := deep + 1) (p := fun s => s = "end") (tx_c ("end" : Str)) (fun G Q q => ⟨_, rfl, _, _, rfl, rfl, q⟩) M5.bag (by omega) fun a3 x3 G11 px3 s11 B11 g11 => ?_
        subst px3
        have M9 := M5.but s11 B11
        refine ⟨p, _, _, rfl, rfl, M9.gF, small1000 (by simp only [List.length_append, List.length_singleton]; omega), ?_⟩
        refine hnx _ p _ _ _ l4 ⟨M9.push g11, by omega, by omega, ?_, ?_⟩
        · simp only [List.length_append, List.length_singleton]
          omega
        · have z := S.ok.app (OkD.iff htt ok4)
          simp only [List.append_assoc] at z ⊢
          exact z
    obtain ⟨tE, pE, rE⟩ : ∃ tE, PSs (cxOf CX0 P w K mg base nmDL "_law_lines" (defScope sDLines) f cdv A outer s H E).nox dlElse tE ∧
        ∀ (D : Ends) (H0 G : Hp) (i : Nat) (F : Addr) (vs : List V) (rows : List (Str × Nat)) (m' : Nat) (ls' : List Int) (v4 : Option V), LS H0 G b L c deep m ls i 1 F vs rows m' ls' → i < 4 →
          (∀ (G : Hp) (F : Addr) (vs : List V) (rows : List (Str × Nat)) (m' : Nat) (ls' : List Int), LS H0 G b L c deep m ls (i + 1) 0 F vs rows m' ls' → D.nx [some (.ref b), some (.int (deep : Nat)), some (.ref L), some (.ref F), v4] G) →
          tE D [some (.ref b), some (.int (deep : Nat)), some (.ref L), some (.ref F), v4] G := by
      refine ⟨_, pss_one (ps_expr (pe_bm PySem.F.plainAttrs_list PySem.F.slot_list_append PySem.F.type_list_append mt_append (pv 3) (pa_cons (pe_tup (pa_cons (pe_call GP hr4 rfl gP kP bP .nil pass0 (pa_cons (pv 0) pa_nil)) (pa_cons (pv 1) pa_nil))) pa_nil))), ?_⟩
      intro D H0 G i F vs rows m' ls' v4 S hi hnx
      have M := S.md
      have hmm := S.mm
      have hcnt := S.cnt
      have hsiz := S.siz
      have hvl := M.rw.len
      refine ⟨_, rfl, .inl ⟨rfl, _, SqL.of M.gF⟩, ?_⟩
      refine tup_new (b := b) (c := c) (k := 116) (d := deep) (p := PlainP) (rb_tx (i := 0) (k := 116) (p := PlainP) rfl) (fun G Q q => ⟨_, rfl, q⟩) M.bag (by omega) fun a x G2 px s2 B2 g2 => ?_
      have M2 := M.but s2 B2
      refine ⟨F, _, _, rfl, rfl, M2.gF, small1000 (by omega), ?_⟩
      refine hnx _ F _ _ _ ls' ⟨M2.push g2, by omega, by omega, ?_, S.ok.app (OkD.plain px)⟩
      rw [List.length_append, List.length_singleton]
      omega
    obtain ⟨tB, pB, rB⟩ : ∃ tB, PSs (cxOf CX0 P w K mg base nmDL "_law_lines" (defScope sDLines) f cdv A outer s H E).nox (forBody dlFor) tB ∧
        ∀ (D : Ends) (H0 G : Hp) (i : Nat) (F : Addr) (vs : List V) (rows : List (Str × Nat)) (m' : Nat) (ls' : List Int) (v4 : Option V), LS H0 G b L c deep m ls i 0 F vs rows m' ls' → i < 4 →
          (∀ (G : Hp) (F : Addr) (vs : List V) (rows : List (Str × Nat)) (m' : Nat) (ls' : List Int), LS H0 G b L c deep m ls (i + 1) 0 F vs rows m' ls' → D.nx [some (.ref b), some (.int (deep : Nat)), some (.ref L), some (.ref F), v4] G) →
          tB D [some (.ref b), some (.int (deep : Nat)), some (.ref L), some (.ref F), v4] G := by
      refine ⟨_, pss_one (ps_if (PW.pt (pw_and (pt_cmpR op_eq (pe_call GD hr1 rfl gD kD bD .nil pass0 (pa_cons (pv 0) (pa_cons pe_int pa_nil))) pe_int (nomark _)) (pw_and (pt_cmpR op_lt (pv 1) pe_int (nomark _)) (pw_and1 (pt_cmpR (op_neD hr.units) (pv 2) (pe_lst pa_nil) (nomark _)))))) pS pE), ?_⟩
      intro D H0 G i F vs rows m' ls' v4 S hi hnx
      have M := S.md
      have hmm := S.mm
      have hcnt := S.cnt
      have hsiz := S.siz
      refine ⟨_, rfl, b, c, 4, m', rfl, M.bag, by omega, by decide, by decide, fun r H1 r0 r1 B1 k1 => ?_⟩
      have S1 : LS H0 H1 b L c deep m ls i 1 F vs rows (m' + 1) ls' := ⟨M.but k1 B1, by omega, hcnt, hsiz, S.ok⟩
      refine ⟨rfl, _, rfl, ?_⟩
      refine ite2 (fun hr0 => ?_) (fun hr0 => ?_)
      case refine_2 =>
        refine iteF ?_
        exact rE D H0 H1 i F vs rows (m' + 1) ls' _ S1 hi hnx
      refine ⟨_, rfl, _, _, rfl, rfl, _, rfl, ?_⟩
      refine ite2 (fun hd4 => ?_) (fun hd4 => ?_)
      case refine_2 =>
        refine iteF ?_
        exact rE D H0 H1 i F vs rows (m' + 1) ls' _ S1 hi hnx
      have hd4' := of_decide_eq_true hd4
      refine ⟨_, rfl, (by show 0 ≤ sizeLine; decide), fun q nq => ?_⟩
      have sq := Same.new (o := .lst []) nq
      have S2 : LS H0 (upd H1 q (.lst [])) b L c deep m ls i 1 F vs rows (m' + 1) ls' := ⟨S1.md.but (but_same sq) (BagAt.keep S1.md.bag sq), S1.mm, S1.cnt, S1.siz, S1.ok⟩
      refine ⟨.list (ls'.map PyData.int), .list [], .lst (SqL.of S2.md.gL) (dpInts ls'), .lst (SqL.of upd_same) .nil, shapedInts ls', by decide +kernel, ?_⟩
      cases ls' with
      | nil =>
        refine ⟨_, rfl, ?_⟩
        refine ifF3 (show (!PyData.eqv (.list []) (.list [])) = false by simp [PyData.eqv, PyData.eqvAll]) ?_
        exact rE D H0 _ i F vs rows (m' + 1) [] _ S2 hi hnx
      | cons x xs =>
        refine ⟨_, rfl, ?_⟩
        refine ifT3 (show (!PyData.eqv (.list ((x :: xs).map PyData.int)) (.list [])) = true by simp [PyData.eqv, PyData.eqvAll]) ?_
        exact rS D H0 _ i F vs rows (m' + 1) (x :: xs) _ S2 (by omega) (by intro z; cases z) hi hnx
    refine ⟨_, pss_cons (ps_set (i := 3) scDL.nd rfl (.inl rfl) (pe_lst pa_nil))
      (pss_cons (ps_for PassesOwn.never rfl (pi_range1 (by rfl) T.range (pa_cons (pe_call GD hr1 rfl gD kD bD .nil pass0 (pa_cons (pv 0) (pa_cons pe_int pa_nil))) pa_nil)) (pg_name (i := 4) scDL.nd rfl (Or.inl rfl)) pB)
      (pss_one (ps_ret (pv 3)))), ?_⟩
    refine ⟨(by show 0 ≤ sizeLine; decide), fun F0 nF => ?_⟩
    have s0 := Same.new (o := .lst []) nF
    obtain ⟨kvb, eb⟩ := bag_dk hB
    have bL : b ≠ L := ne_of eb hL (by intro z; cases z)
    have M0 : Md H (upd H F0 (.lst [])) b L c F0 [] [] m ls := ⟨nF, upd_same, trivial, BagAt.keep hB s0, Fr.same s0, s0 _ _ hL, (ne_of_none eb nF).symm, (ne_of_none hL nF).symm, bag_cells hB nF, bL, hcL⟩
    refine ⟨_, rfl, b, c, 5, m, rfl, M0.bag, by omega, by decide, by decide, fun r1 H1 r10 r11 B1 k1 => ?_⟩
    obtain ⟨n1, rfl⟩ : ∃ n1 : Nat, r1 = n1 := ⟨r1.toNat, by omega⟩
    refine ⟨(n1 : Int), rfl, by omega, by omega, ?_⟩
    rw [Int.toNat_natCast]
    refine for_range (lo := 0) (n := n1) (fun i σ G => ∃ (F : Addr) (vs : List V) (rows : List (Str × Nat)) (m' : Nat) (ls' : List Int) (v4 : Option V), σ = [some (.ref b), some (.int (deep : Nat)), some (.ref L), some (.ref F), v4] ∧ LS H G b L c deep m ls i 0 F vs rows m' ls')
      ⟨F0, [], [], m + 1, ls, none, rfl, M0.but k1 B1, by omega, Nat.le_refl _, by simp, OkD.nil deep⟩ ?_ ?_
    · rintro i σ G hi ⟨F, vs, rows, m', ls', v4, rfl, S⟩
      exact rB _ H G i F vs rows m' ls' _ S (by omega) fun G2 F2 vs2 rows2 m2 ls2 S2 => ⟨F2, vs2, rows2, m2, ls2, _, rfl, S2⟩
    · rintro σ G ⟨F, vs, rows, m', ls', v4, rfl, S⟩
      have M := S.md
      have := S.mm
      have := S.siz
      exact ⟨_, rfl, k F G vs rows m' ls' M.hF M.gF M.rw M.bag (by omega) M.fr M.gL S.cnt (by omega) S.ok⟩
theorem ok_dls {f fD fT fP : Addr} {fd fdD fdT fdP : FuncData} (F : Fun K "_law_lines" "_law_lines" sDLines f fd) (T : TxtB mg)
    (GD : FnOk P w K mg base CX0 1 fD fdD ["_law_bag_here", "_law_limit"] spDraw) (kD : PySem.W.keepIn K (.ref fD) = true) (bD : Binds K fdD ["_law_bag_here", "_law_limit"] []) (gD : mg "_law_draw" = some (.ref fD))
    (GT : FnOk P w K mg base CX0 3 fT fdT ["_law_bag_here"] (spTx 45 testP)) (kT : PySem.W.keepIn K (.ref fT) = true) (bT : Binds K fdT ["_law_bag_here"] []) (gT : mg "_law_test" = some (.ref fT))
    (GP : FnOk P w K mg base CX0 4 fP fdP ["_law_bag_here"] (spTx 116 PlainP)) (kP : PySem.W.keepIn K (.ref fP) = true) (bP : Binds K fdP ["_law_bag_here"] []) (gP : mg "_law_plain" = some (.ref fP))
    (gf : mg "_law_lines" = some (.ref f)) (bf : Binds K fd ["_law_bag_here", "_law_deep", "_law_left"] []) : ∀ n, FnOk P w K mg base CX0 (n + 5) f fd ["_law_bag_here", "_law_deep", "_law_left"] (spDL n)
  | 0 => ok_dl F T GD kD bD gD GT kT bT gT GP kP bP gP gf bf 0 fun k z => nomatch z
  | n + 1 => ok_dl F T GD kD bD gD GT kT bT gT GP kP bP gP gf bf (n + 1) fun k z => by
    cases z
    exact ok_dls F T GD kD bD gD GT kT bT gT GP kP bP gP gf bf n
end
end K14

set_option Elab.async false
set_option linter.all false
set_option maxRecDepth 100000
set_option maxHeartbeats 8000000
/-! k14, the law: a line spoiled -/
namespace K14
open PySem L2 K14D
abbrev sSpoil : Stmt := top 76
/-- a line spoiled -/
structure SpP (y : Str) : Prop where
  ln : Ln y
  len : y.length ≤ 260
  ne : 1 ≤ y.length
theorem cutS_lo {z : Str} {p : Nat} (h : p ≤ z.length) : TL.tl (cutS z none (some (p : Int))) = (TL.tl z).take p := by
  unfold cutS
  show ((z.cps.toList.drop 0).take (HT.sIx z.length z.length (some ((p : Nat) : Int)) - 0)) = _
  rw [HT.sIx_nat, Nat.min_eq_left h]
  rfl
theorem cutS_hi {z : Str} {p : Nat} (h : p ≤ z.length) : TL.tl (cutS z (some (p : Int)) none) = (TL.tl z).drop p := by
  unfold cutS
  show ((z.cps.toList.drop (HT.sIx z.length 0 (some ((p : Nat) : Int)))).take (z.length - HT.sIx z.length 0 (some ((p : Nat) : Int)))) = _
  rw [HT.sIx_nat, Nat.min_eq_left h]
  refine List.take_of_length_le ?_
  rw [List.length_drop]
  exact Nat.le_refl _
theorem at_chr {z : Str} {r : Int} (h0 : 0 ≤ r) (h1 : r < (z.length : Int)) : ∃ c ∈ TL.tl z, atI z.cps.toList r = some c := by
  obtain ⟨j, rfl⟩ : ∃ j : Nat, r = j := ⟨r.toNat, by omega⟩
  have hj : j < z.cps.toList.length := by
    have : z.cps.toList.length = z.length := rfl
    omega
  exact ⟨_, List.getElem_mem hj, atI_nat (List.getElem?_eq_getElem hj)⟩
/-- signs put in, left out, exchanged -/
theorem spoil_sign {x y a : Str} {p : Nat} (h : DrP x) (hp : p < x.length) (ha : ∀ c ∈ TL.tl a, okS c) (al : a.length ≤ 2) (e : TL.tl y = (TL.tl x).take p ++ TL.tl a ++ (TL.tl x).drop (p + 1)) : SpP y := by
  have l1 : (TL.tl x).length = x.length := rfl
  have l2 : (TL.tl y).length = y.length := rfl
  have l3 : (TL.tl a).length = a.length := rfl
  have ly : y.length = p + a.length + (x.length - (p + 1)) := by
    rw [← l2, e, List.length_append, List.length_append, List.length_take, List.length_drop, l1, l3]
    omega
  have h2 := h.two
  have h3 := h.len
  refine ⟨⟨fun c hc => ?_, by omega⟩, by omega, by omega⟩
  rw [e] at hc
  rcases List.mem_append.mp hc with hc | hc
  · rcases List.mem_append.mp hc with hc | hc
    · exact h.ln.ok c (List.take_subset _ _ hc)
    · exact ha c hc
  · exact h.ln.ok c (List.drop_subset _ _ hc)
theorem joinL_set {q : List Nat} : ∀ {ps : List (List Nat)} {i : Nat}, (TL.joinL [32] (ps.set i q)).length ≤ (TL.joinL [32] ps).length + q.length
  | [], i => Nat.zero_le _
  | [p], 0 => by
    show q.length ≤ p.length + q.length
    omega
  | [p], i + 1 => Nat.le_add_right _ _
  | p :: r :: t, 0 => by
    show (q ++ ([32] ++ TL.joinL [32] (r :: t))).length ≤ (p ++ ([32] ++ TL.joinL [32] (r :: t))).length + q.length
    simp only [List.length_append]
    omega
  | p :: r :: t, i + 1 => by
    have ih := @joinL_set q (r :: t) i
    have e : TL.joinL [32] ((p :: r :: t).set (i + 1) q) = p ++ ([32] ++ TL.joinL [32] ((r :: t).set i q)) := by
      cases i <;> rfl
    rw [e]
    show (p ++ ([32] ++ TL.joinL [32] ((r :: t).set i q))).length ≤ (p ++ ([32] ++ TL.joinL [32] (r :: t))).length + q.length
    rw [List.length_append, List.length_append, List.length_append, List.length_append]
    omega
/-- a word put as another one -/
theorem spoil_word {x y w : Str} {i : Nat} (h : DrP x) (hi : i < (Txt.split x " ").length) (hw : Wo w) (w1 : 1 ≤ w.length) (wl5 : w.length ≤ 20) (e : TL.tl y = wl ((Txt.split x " ").set i w)) : SpP y := by
  have l2 : (TL.tl y).length = y.length := rfl
  have l3 : (TL.tl w).length = w.length := rfl
  have hs := split_tl x
  have lx : (wl (Txt.split x " ")).length = x.length := by rw [← hs]; rfl
  have ws := h.ln.words.1
  have es : wl ((Txt.split x " ").set i w) = TL.joinL [32] (((Txt.split x " ").map TL.tl).set i (TL.tl w)) := by
    unfold wl
    rw [List.map_set]
  have up := @joinL_set (TL.tl w) ((Txt.split x " ").map TL.tl) i
  have lo := joinL_long (S := [32]) (ps := ((Txt.split x " ").map TL.tl).set i (TL.tl w)) (p := TL.tl w) (List.mem_set (by rw [List.length_map]; exact hi) _)
  have ly : y.length = (TL.joinL [32] (((Txt.split x " ").map TL.tl).set i (TL.tl w))).length := by rw [← l2, e, es]
  have lx2 : (TL.joinL [32] ((Txt.split x " ").map TL.tl)).length = x.length := lx
  have h3 := h.len
  refine ⟨⟨fun c hc => ?_, by omega⟩, by omega, by omega⟩
  rw [e] at hc
  refine wl_ok (fun u hu => ?_) c hc
  rcases List.mem_or_eq_of_mem_set hu with hu | hu
  · exact ws u hu
  · rw [hu]; exact hw
/-- a row of closed texts: its constants -/
def strOf : Expr → Str
  | .Constant (.str s) _ _ => s
  | _ => ""
def spSuite : List Stmt := match (defBody sSpoil).getD 2 passS with
  | .If _ b _ _ => b
  | _ => []
def spSign : Str := match (defBody sSpoil).getD 1 passS with
  | .Assign _ (.Subscript e _ _) _ => strOf e
  | _ => ""
def spPool : Str := match spSuite.getD 1 passS with
  | .Assign _ (.Call (.Attribute e _ _) _ _ _) _ => strOf e
  | _ => ""
theorem sign_ok : (∀ c ∈ TL.tl spSign, c < 128 ∧ c ≠ 10) ∧ spSign.length = 16 := by decide +kernel
def poolW : List Str := Txt.split spPool "|"
theorem pool_ok : poolW.length = 25 ∧ (∀ w ∈ poolW, woB w = true ∧ 1 ≤ w.length ∧ w.length ≤ 20) ∧ spPool.length ≤ 200 ∧ (("|" : Str).length == 0) = false ∧ ((" " : Str).length == 0) = false ∧ (" " : Str).length = 1 := by decide +kernel
def spSpoil : Sp := fun vs H Q _ => ∃ (b c : Addr) (m : Nat) (x : Str), vs = [.ref b, .str x] ∧ BagAt c H b m ∧ m + 5 ≤ 90000 ∧ DrP x ∧ ∀ (y : Str) (G : Hp), SpP y → But b H G → BagAt c G b (m + 5) → Q (.str y) G
abbrev nmSp : List Str := ["_law_bag_here", "_law_line", "_law_place", "_law_way", "_law_sign", "_law_words", "_law_pool", "_law_amid"]
theorem scSp : FnScope nmSp ["_law_bag_here", "_law_line"] (defScope sSpoil) := ⟨rfl, rfl, rfl, by decide +kernel, rfl, by decide +kernel, by decide +kernel⟩
section
variable {P : Program} {w : World} {K : PySem.W.Frag} {mg : Str → Option Value} {base : Heap}
theorem ok_spoil {f fD : Addr} {fd fdD : FuncData} (F : Fun K "_law_spoiled" "_law_spoiled" sSpoil f fd) (T : TxtN mg)
    (GD : FnOk P w K mg base CX0 1 fD fdD ["_law_bag_here", "_law_limit"] spDraw) (kD : PySem.W.keepIn K (.ref fD) = true) (bD : Binds K fdD ["_law_bag_here", "_law_limit"] []) (gD : mg "_law_draw" = some (.ref fD)) : FnOk P w K mg base CX0 2 f fd ["_law_bag_here", "_law_line"] spSpoil := by
  have sc := scSp
  refine F.ok scSp (fun vs H Q E h => ?_) (fun cdv A outer s H vs Q E hr h => ?_)
  · obtain ⟨b, c, m, x, rfl, _⟩ := h
    rfl
  · obtain ⟨b, c, m, x, rfl, B, hm, hx, k⟩ := h
    have hr1 : Room 1 _ := hr.mono (by decide)
    refine ⟨_, pss_cons (ps_par (i := 2) (j := 3) rfl sc.nd rfl rfl (by decide) rfl rfl (pa_cons (pe_call GD hr1 rfl gD kD bD .nil pass0 (pa_cons (pv 0) (pa_cons (pe_callB call_len_str (by rfl) T.len PySem.boot_len (pa_cons (pv 1) pa_nil)) pa_nil))) (pa_cons (pe_call GD hr1 rfl gD kD bD .nil pass0 (pa_cons (pv 0) (pa_cons pe_int pa_nil))) pa_nil)) (by rfl))
      (pss_cons (ps_set (i := 4) sc.nd rfl (.inl rfl) (pe_ix ix_str pe_str (pe_call GD hr1 rfl gD kD bD .nil pass0 (pa_cons (pv 0) (pa_cons pe_int pa_nil))) (fun _ _ => rfl)))
      (pss_cons (ps_if (pt_cmpR op_eq (pv 3) pe_int (nomark _))
        (pss_cons (ps_set (i := 5) sc.nd rfl (.inl rfl) (pe_split (pv 1) pe_str))
        (pss_cons (ps_set (i := 6) sc.nd rfl (.inl rfl) (pe_split pe_str pe_str))
        (pss_cons (ps_asg (pe_ix ix_list (pv 6) (pe_call GD hr1 rfl gD kD bD .nil pass0 (pa_cons (pv 0) (pa_cons pe_int pa_nil))) (fun _ _ => rfl)) (pg_sub (pv 5) (pe_call GD hr1 rfl gD kD bD .nil pass0 (pa_cons (pv 0) (pa_cons (pe_callB call_len_seq (by rfl) T.len PySem.boot_len (pa_cons (pv 5) pa_nil)) pa_nil))) set_list))
        (pss_one (ps_ret (pe_join pe_str (pv 5))))))) pss_nil)
      (pss_cons (ps_set (i := 7) sc.nd rfl (.inl rfl) (pe_ix ix_list (pe_lst (pa_cons pe_str (pa_cons (pe_op op_add_str (pv 4) (pe_ix ix_str (pv 1) (pv 2) (fun _ _ => rfl))) (pa_cons (pv 4) pa_nil)))) (pv 3) (fun _ _ => rfl)))
      (pss_one (ps_ret (pe_op op_add_str (pe_op op_add_str (pe_slice sl_str (pv 1) po_none (po_some (pv 2))) (pv 7)) (pe_slice sl_str (pv 1) (po_some (pe_op op_add (pv 2) pe_int)) po_none))))))), ?_⟩
    obtain ⟨p1, p2, p3, p4, p5, p6⟩ := pool_ok
    obtain ⟨g1, g2⟩ := sign_ok
    have hx2 := hx.two
    have hx3 := hx.len
    have cap : ∀ n : Nat, n ≤ 1000 → n ≤ sizeLine := fun n h => Nat.le_of_lt (small1000 h)
    refine ⟨_, rfl, _, rfl, x, rfl, cap _ (by omega), b, c, _, m, rfl, B, by omega, by omega, by omega, fun pz G1 pz0 pz1 B1 s1 => ?_⟩
    obtain ⟨p, rfl⟩ : ∃ p : Nat, pz = p := ⟨pz.toNat, by omega⟩
    have hp : p < x.length := by omega
    refine ⟨_, rfl, b, c, 4, m + 1, rfl, B1, by omega, by decide, by decide, fun way G2 w0 w1 B2 s2 => ?_⟩
    refine ⟨_, _, rfl, ?_⟩
    refine ⟨_, rfl, b, c, 16, m + 2, rfl, B2, by omega, by decide, by decide, fun r G3 r0 r1 B3 s3 => ?_⟩
    obtain ⟨ch, hch, hat⟩ := at_chr (z := spSign) r0 (by rw [g2]; exact r1)
    refine ⟨spSign, _, ch, rfl, rfl, cap _ (by omega), hat, ?_⟩
    have S3 := s1.trans (s2.trans s3)
    have okch : okS ch := g1 ch hch
    refine ⟨_, rfl, rfl, _, rfl, ?_⟩
    refine ite2 (fun h3 => ?_) (fun h3 => ?_)
    · refine ⟨_, rfl, ⟨_, rfl⟩, x, " ", rfl, rfl, p5, cap _ (by omega), fun q nq => ?_⟩
      refine gname_to rfl ?_
      obtain ⟨hw, hl6⟩ := hx.ln.words
      have ne := split_ne x
      have hpos : 0 < (Txt.split x " ").length := List.length_pos_iff.mpr ne
      obtain ⟨ws, ews⟩ : ∃ ws, ws = Txt.split x " " := ⟨_, rfl⟩
      have sq := Same.new (o := .lst (ws.map V.str)) nq
      rw [← ews]
      have gq : upd G3 q (.lst (ws.map V.str)) q = some (.lst (ws.map V.str)) := upd_same
      have B4 := BagAt.keep B3 sq
      have S4 : But b H (upd G3 q (.lst (ws.map V.str))) := But.trans S3 (but_same sq)
      have qb := BagAt.ne B3 nq
      have qc := bag_cells B3 nq
      have qH := none_back S3 nq qb
      generalize upd G3 q (.lst (ws.map V.str)) = G4 at gq B4 S4 ⊢
      refine ⟨⟨_, rfl⟩, spPool, "|", rfl, rfl, p4, cap _ (by omega), fun q2 nq2 => ?_⟩
      refine gname_to rfl ?_
      have sq2 := Same.new (o := .lst (poolW.map V.str)) nq2
      have gq2 : upd G4 q2 (.lst ((Txt.split spPool "|").map V.str)) q2 = some (.lst (poolW.map V.str)) := upd_same
      have gq := sq2 _ _ gq
      have B5 : BagAt c (upd G4 q2 (.lst ((Txt.split spPool "|").map V.str))) b (m + 2 + 1) := BagAt.keep B4 sq2
      have S5 : But b H (upd G4 q2 (.lst ((Txt.split spPool "|").map V.str))) := But.trans S4 (but_same sq2)
      have q2b := BagAt.ne B4 nq2
      have gq : upd G4 q2 (.lst ((Txt.split spPool "|").map V.str)) q = some (.lst (ws.map V.str)) := gq
      generalize upd G4 q2 (.lst ((Txt.split spPool "|").map V.str)) = G5 at gq gq2 B5 S5 ⊢
      refine ⟨_, rfl, _, rfl, b, c, 25, m + 3, rfl, B5, by omega, by decide, by decide, fun r4 G6 r40 r41 B6 s6 => ?_⟩
      obtain ⟨j, rfl⟩ : ∃ j : Nat, r4 = j := ⟨r4.toNat, by omega⟩
      have hj : j < poolW.length := by omega
      have hjw : (poolW.map V.str)[j]? = some (V.str poolW[j]) := by rw [List.getElem?_map, List.getElem?_eq_getElem hj]; rfl
      obtain ⟨wb, w1, w2⟩ := p2 _ (List.getElem_mem hj)
      generalize poolW[j] = nw at hjw wb w1 w2
      refine ⟨q2, _, _, _, rfl, rfl, SqL.of (s6 _ _ gq2 q2b), atI_nat hjw, ?_⟩
      have gq := s6 _ _ gq qb
      refine ⟨_, rfl, _, rfl, _, rfl, q, _, rfl, .inl (SqL.of gq), b, c, _, m + 4, rfl, B6, by omega, ?_, ?_, fun r5 G7 r50 r51 B7 s7 => ?_⟩
      · rw [List.length_map, ews]
        omega
      · rw [List.length_map, ews]
        omega
      rw [List.length_map] at r51
      obtain ⟨i, rfl⟩ : ∃ i : Nat, r5 = i := ⟨r5.toNat, by omega⟩
      have hi : i < ws.length := by omega
      have gq := s7 _ _ gq qb
      refine ⟨q, _, _, i, rfl, rfl, gq, ixN_nat (by rw [List.length_map]; exact hi), ?_⟩
      have hset : (ws.map V.str).set i (V.str nw) = (ws.set i nw).map V.str := by rw [List.map_set]
      rw [hset]
      have S7 : But b H G7 := But.trans S5 (But.trans s6 s7)
      have gw : upd G7 q (.lst ((ws.set i nw).map V.str)) q = some (.lst ((ws.set i nw).map V.str)) := upd_same
      have B8 : BagAt c (upd G7 q (.lst ((ws.set i nw).map V.str))) b (m + 4 + 1) := bag_write B7 qb qc
      have S8 : But b H (upd G7 q (.lst ((ws.set i nw).map V.str))) := but_write S7 qH
      generalize upd G7 q (.lst ((ws.set i nw).map V.str)) = G8 at gw B8 S8 ⊢
      have hws : ∀ u ∈ ws.set i nw, u.length ≤ 600 := fun u hu => by
        rcases List.mem_or_eq_of_mem_set hu with hu | hu
        · exact (hw u (by rw [← ews]; exact hu)).len
        · rw [hu]; omega
      have sl := sum_le hws
      rw [List.length_set, ews] at sl
      refine ⟨⟨_, rfl⟩, _, rfl, " ", q, ws.set i nw, rfl, rfl, .inl (SqL.of gw), ?_, ?_⟩
      · rw [p6, List.length_set, ews]
        omega
      refine k _ G8 ?_ S8 B8
      refine spoil_word (i := i) (w := nw) hx (by rw [← ews]; exact hi) (wo_of wb) w1 w2 ?_
      rw [← ews, TL.join_eq, TL.tl_join]
      rfl
    · have hw3 : way ≠ 3 := fun z => h3 (by rw [z]; rfl)
      obtain ⟨xc, hxc, hatx⟩ := at_chr (z := x) pz0 pz1
      have one : ∀ d : Nat, TL.tl (⟨#[d]⟩ : Str) = [d] ∧ (⟨#[d]⟩ : Str).length = 1 := fun d => ⟨rfl, rfl⟩
      have okx : okS xc := hx.ln.ok xc hxc
      have zero : TL.tl ("" : Str) = [] ∧ ("" : Str).length = 0 := by decide +kernel
      obtain ⟨a, hat3, ha, hal⟩ : ∃ a : Str, atI [V.str "", V.str ((⟨#[ch]⟩ : Str) ++ (⟨#[xc]⟩ : Str)), V.str ⟨#[ch]⟩] way = some (.str a) ∧ (∀ d ∈ TL.tl a, okS d) ∧ a.length ≤ 2 := by
        have hc : way = ((0 : Nat) : Int) ∨ way = ((1 : Nat) : Int) ∨ way = ((2 : Nat) : Int) := by omega
        rcases hc with e | e | e
        · exact ⟨"", by rw [e]; exact atI_nat rfl, (fun d hd => by rw [zero.1] at hd; cases hd), by rw [zero.2]; decide⟩
        · refine ⟨_, by rw [e]; exact atI_nat rfl, ?_, by rw [add_len]; exact Nat.le_refl 2⟩
          rw [TL.tl_append]
          intro d hd
          rcases List.mem_append.mp hd with hd | hd
          · rw [List.mem_singleton.mp hd]; exact okch
          · rw [List.mem_singleton.mp hd]; exact okx
        · refine ⟨⟨#[ch]⟩, by rw [e]; exact atI_nat rfl, ?_, Nat.le_succ 1⟩
          intro d hd
          rw [List.mem_singleton.mp hd]
          exact okch
      refine ⟨_, rfl, _, rfl, _, rfl, x, _, xc, rfl, rfl, cap _ (by omega), hatx, _, _, rfl, rfl, cap 2 (by decide), _, rfl, (by show 3 ≤ sizeLine; decide), fun q nq => ?_⟩
      have sq := Same.new (o := .lst [V.str "", V.str ((⟨#[ch]⟩ : Str) ++ (⟨#[xc]⟩ : Str)), V.str ⟨#[ch]⟩]) nq
      refine ⟨_, rfl, q, _, _, _, rfl, rfl, SqL.of upd_same, hat3, ?_⟩
      refine ⟨_, rfl, _, rfl, _, rfl, x, rfl, cap _ (by omega), _, rfl, _, _, rfl, rfl, ?_, _, rfl, _, rfl, _, _, rfl, rfl, _, rfl, x, rfl, cap _ (by omega), _, _, rfl, rfl, ?_, ?_⟩
      · have := cutS_length x none (some (p : Int))
        exact cap _ (by omega)
      · have := cutS_length x none (some (p : Int))
        have := cutS_length x (some ((p : Int) + 1)) none
        refine cap _ ?_
        rw [add_len]
        omega
      refine k _ _ ?_ (But.trans S3 (but_same sq)) (BagAt.mono (BagAt.keep B3 sq) (by omega))
      refine spoil_sign (p := p) (a := a) hx hp ha hal ?_
      rw [TL.tl_append, TL.tl_append, cutS_lo (by omega), show ((p : Int) + 1) = ((p + 1 : Nat) : Int) from rfl, cutS_hi (by omega)]
end
end K14

set_option Elab.async false
set_option linter.all false
set_option maxRecDepth 100000
set_option maxHeartbeats 8000000
/-! k14, the law: a drawn plain line -/
namespace K14
open PySem L2 K14D
abbrev sDPlain : Stmt := top 68
abbrev nmDPlain : List Str := ["_law_bag_here", "_law_one", "_law_two", "_law_three", "_law_goal", "_law_goals", "_law_pool", "_law_flags", "_law_turn"]
theorem scDPlain : FnScope nmDPlain ["_law_bag_here"] (defScope sDPlain) := ⟨rfl, rfl, rfl, by decide +kernel, rfl, by decide +kernel, by decide +kernel⟩
section
variable {P : Program} {w : World} {K : PySem.W.Frag} {mg : Str → Option Value} {base : Heap}
theorem rbl_ends {b c : Addr} {σ : L2.St} {H : Hp} : RBL b c σ H 0 (tOp rCat (tCall (spList placesAll) [] E0 tNil) (tLst (tCons (tC (.str "bin")) tNil))) (fun ts => ts = ends6) :=
  (rbf_cat (k1 := 0) (k2 := 0) rbl_call (rbf_lst (k := 0) (PA := fun ts => ∃ x r, ts = x :: r ∧ x = "bin" ∧ r = []) (ls_cons (k1 := 0) (k2 := 0) (tx_c "bin") ls_nil) (fun ts ⟨a, r, e, _, e2⟩ => by subst e e2; exact (show 1 ≤ 900 by decide))).l (fun ts us e1 ⟨a, r, e, _, e2⟩ => by subst e1 e e2; exact (show 5 + 1 ≤ 900 by decide))).l.mono fun ts ⟨x, y, e1, ⟨a, r, e, ea, e2⟩, e3⟩ => by
    subst e3 e1 e ea e2
    rfl
theorem few_words : (∀ p ∈ placesAll, p.length ≤ 5) ∧ (∀ p ∈ ends6, p.length ≤ 5) ∧ (∀ p ∈ goalsL, p.length ≤ 5) ∧ (∀ p ∈ regsL, p.length ≤ 5) ∧ (∀ p ∈ flagsL, p.length ≤ 5) := by decide +kernel
theorem few_lits : ∀ s ∈ [(" = " : Str), " = size ", " = size ahead ", " = next ", " = prev ", "next ", "prev ", "head ", "size ", "foot ", " ", "ahead ", " + ", " - "], s.length ≤ 20 := by decide +kernel
theorem place_goal {i : Nat} {s : Str} (h1 : 1 ≤ i) (h : placesAll[i]? = some s) : s ∈ goalsL := by
  have e : placesAll = ("own" : Str) :: goalsL := rfl
  rw [e] at h
  obtain ⟨j, rfl⟩ : ∃ j, i = j + 1 := ⟨i - 1, by omega⟩
  exact List.mem_of_getElem? (show goalsL[j]? = some s by simpa using h)
theorem asg_to {te : TE} {g : TG} {t : TS} {D : Ends} {σ : L2.St} {H : Hp} (h : te σ H fun x H1 => g x σ H1 fun σ2 H2 => t D σ2 H2) : tSeq (tAsg te g) t D σ H := h
theorem ok_dplain {f fD fP fS : Addr} {fd fdD fdP fdS : FuncData} (F : Fun K "_law_plain" "_law_plain" sDPlain f fd) (T : TxtN mg) (T3 : TxtS3 mg)
    (GD : FnOk P w K mg base CX0 1 fD fdD ["_law_bag_here", "_law_limit"] spDraw) (kD : PySem.W.keepIn K (.ref fD) = true) (bD : Binds K fdD ["_law_bag_here", "_law_limit"] []) (gD : mg "_law_draw" = some (.ref fD))
    (GP : FnOk P w K mg base CX0 1 fP fdP [] (spList placesAll)) (kP : PySem.W.keepIn K (.ref fP) = true) (bP : Binds K fdP [] []) (gP : mg "_law_places" = some (.ref fP))
    (GS : FnOk P w K mg base CX0 3 fS fdS ["_law_bag_here"] (spTx 21 sumP)) (kS : PySem.W.keepIn K (.ref fS) = true) (bS : Binds K fdS ["_law_bag_here"] []) (gS : mg "_law_sum" = some (.ref fS)) : FnOk P w K mg base CX0 4 f fd ["_law_bag_here"] (spTx 116 PlainP) := by
  have sc := scDPlain
  refine F.ok scDPlain (fun vs H Q E h => ?_) (fun cdv A outer s H vs Q E hr h => ?_)
  · obtain ⟨b, c, m, rfl, _⟩ := h
    rfl
  · obtain ⟨b, c, m, rfl, B, hm, k⟩ := h
    have hr1 : Room 1 _ := hr.mono (by decide)
    refine ⟨_, pss_cons (ps_par (i := 1) (j := 2) rfl sc.nd rfl rfl (by decide) rfl rfl (pa_cons (pe_ix ix_list (pe_call0 GP hr1 rfl gP kP bP .nil pass0) (pe_call GD hr1 rfl gD kD bD .nil pass0 (pa_cons (pv 0) (pa_cons pe_int pa_nil))) (fun _ _ => rfl)) (pa_cons (pe_ix ix_list (pe_op op_cat (pe_call0 GP hr1 rfl gP kP bP .nil pass0) (pe_lst (pa_cons pe_str pa_nil))) (pe_call GD hr1 rfl gD kD bD .nil pass0 (pa_cons (pv 0) (pa_cons pe_int pa_nil))) (fun _ _ => rfl)) pa_nil)) (by rfl))
      (pss_cons (ps_par (i := 3) (j := 4) rfl sc.nd rfl rfl (by decide) rfl rfl (pa_cons (pe_ix ix_list (pe_op op_cat (pe_call0 GP hr1 rfl gP kP bP .nil pass0) (pe_lst (pa_cons pe_str pa_nil))) (pe_call GD hr1 rfl gD kD bD .nil pass0 (pa_cons (pv 0) (pa_cons pe_int pa_nil))) (fun _ _ => rfl)) (pa_cons (pe_ix ix_list (pe_call0 GP hr1 rfl gP kP bP .nil pass0) (pe_op op_add pe_int (pe_call GD hr1 rfl gD kD bD .nil pass0 (pa_cons (pv 0) (pa_cons pe_int pa_nil)))) (fun _ _ => rfl)) pa_nil)) (by rfl))
      (pss_cons (ps_setLc (i := 5) (own := [("_law_turn", 8)]) (g := gName 8) (te := tOp (rIxL K) (tLst (tCons (tC (.str "a")) (tCons (tC (.str "b")) (tCons (tC (.str "c")) tNil)))) (tCall spDraw [] E0 (tCons (tVar 0) (tCons (tC (.int 3)) tNil)))) rfl sc.nd rfl rfl (sw_true rfl rfl rfl (by decide +kernel)) (pi_range1 (by rfl) T3.range (pa_cons pe_int pa_nil)) (blkOk_by (own := [("_law_turn", 8)]) (N := nmDPlain) (sc := defScope sDPlain) (by decide +kernel)) (fun _ _ _ _ _ => pg_name (i := 8) sc.nd rfl (Or.inl rfl)) (fun _ _ _ _ _ => pts_nil)
        (fun _ _ _ _ _ => by exact pe_ix ix_list (pe_lst (pa_cons pe_str (pa_cons pe_str (pa_cons pe_str pa_nil)))) (pe_call GD hr1 rfl gD kD bD .nil pass0 (pa_cons (pv 0) (pa_cons pe_int pa_nil))) (fun _ _ => rfl)))
      (pss_cons (ps_set (i := 6) sc.nd rfl (.inl rfl) (pe_lst (pa_cons pe_str (pa_cons pe_str (pa_cons (pe_op op_add_str (pe_op op_add_str (pe_ix ix_list (pv 5) pe_int (fun _ _ => rfl)) pe_str) (pe_call GS hr rfl gS kS bS .nil pass0 (pa_cons (pv 0) pa_nil))) (pa_cons (pe_op op_add_str (pe_op op_add_str (pe_ix ix_list (pv 5) pe_int (fun _ _ => rfl)) pe_str) (pv 1)) pa_nil))))))
      (pss_cons (ps_set (i := 6) sc.nd rfl (.inl rfl) (pe_op op_cat (pv 6) (pe_lst (pa_cons (pe_op op_add_str (pe_op op_add_str (pe_ix ix_list (pv 5) pe_int (fun _ _ => rfl)) pe_str) (pv 1)) (pa_cons (pe_op op_add_str (pe_op op_add_str (pv 4) pe_str) (pv 1)) pa_nil)))))
      (pss_cons (ps_set (i := 6) sc.nd rfl (.inl rfl) (pe_op op_cat (pv 6) (pe_lst (pa_cons (pe_op op_add_str (pe_op op_add_str (pe_op op_add_str (pe_op op_add_str (pv 4) pe_str) (pv 1)) (pe_ix ix_list (pe_lst (pa_cons pe_str (pa_cons pe_str pa_nil))) (pe_call GD hr1 rfl gD kD bD .nil pass0 (pa_cons (pv 0) (pa_cons pe_int pa_nil))) (fun _ _ => rfl))) (pe_call GS hr rfl gS kS bS .nil pass0 (pa_cons (pv 0) pa_nil))) (pa_cons (pe_op op_add_str (pe_op op_add_str (pv 4) pe_str) (pv 2)) pa_nil)))))
      (pss_cons (ps_set (i := 6) sc.nd rfl (.inl rfl) (pe_op op_cat (pv 6) (pe_lst (pa_cons (pe_op op_add_str (pe_op op_add_str (pv 4) pe_str) (pv 2)) (pa_cons (pe_op op_add_str (pe_op op_add_str (pe_op op_add_str pe_str (pv 2)) pe_str) (pv 3)) (pa_cons (pe_op op_add_str (pe_op op_add_str (pe_op op_add_str pe_str (pv 2)) pe_str) (pv 3)) pa_nil))))))
      (pss_cons (ps_set (i := 7) sc.nd rfl (.inl rfl) (pe_lst (pa_cons (pe_ix ix_list (pe_lst (pa_cons pe_str (pa_cons pe_str pa_nil))) (pe_call GD hr1 rfl gD kD bD .nil pass0 (pa_cons (pv 0) (pa_cons pe_int pa_nil))) (fun _ _ => rfl)) (pa_cons (pe_ix ix_list (pe_lst (pa_cons pe_str (pa_cons pe_str pa_nil))) (pe_call GD hr1 rfl gD kD bD .nil pass0 (pa_cons (pv 0) (pa_cons pe_int pa_nil))) (fun _ _ => rfl)) pa_nil))))
      (pss_cons (ps_expr (pe_bm PySem.F.plainAttrs_list PySem.F.slot_list_append PySem.F.type_list_append mt_append (pv 6) (pa_cons (pe_op op_add_str (pe_op op_add_str (pe_op op_add_str (pe_op op_add_str (pe_op op_add_str (pe_op op_add_str (pe_op op_add_str pe_str (pv 1)) pe_str) (pe_call GS hr rfl gS kS bS .nil pass0 (pa_cons (pv 0) pa_nil))) pe_str) (pe_ix ix_list (pv 7) pe_int (fun _ _ => rfl))) pe_str) (pe_ix ix_list (pv 7) pe_int (fun _ _ => rfl))) pa_nil)))
      (pss_cons (ps_set (i := 6) sc.nd rfl (.inl rfl) (pe_op op_cat (pv 6) (pe_lst (pa_cons (pe_op op_add_str (pe_op op_add_str (pe_op op_add_str pe_str (pv 1)) pe_str) (pe_call GS hr rfl gS kS bS .nil pass0 (pa_cons (pv 0) pa_nil))) (pa_cons (pe_op op_add_str (pe_op op_add_str (pe_op op_add_str pe_str (pv 1)) pe_str) (pe_call GS hr rfl gS kS bS .nil pass0 (pa_cons (pv 0) pa_nil))) pa_nil)))))
      (pss_cons (ps_set (i := 6) sc.nd rfl (.inl rfl) (pe_op op_cat (pv 6) (pe_lst (pa_cons (pe_op op_add_str (pe_op op_add_str (pe_ix ix_list (pv 7) pe_int (fun _ _ => rfl)) pe_str) (pv 1)) (pa_cons (pe_op op_add_str (pe_op op_add_str (pe_op op_add_str pe_str (pe_ix ix_list (pv 7) pe_int (fun _ _ => rfl))) pe_str) (pv 1)) pa_nil)))))
      (pss_one (ps_ret (pe_ix ix_list (pv 6) (pe_call GD hr1 rfl gD kD bD .nil pass0 (pa_cons (pv 0) (pa_cons pe_int pa_nil))) (fun _ _ => rfl)))))))))))))), ?_⟩
    obtain ⟨fw1, fw2, fw3, fw4, fw5⟩ := few_words
    have lit : ∀ s ∈ [(" = " : Str), " = size ", " = size ahead ", " = next ", " = prev ", "next ", "prev ", "head ", "size ", "foot ", " ", "ahead ", " + ", " - "], ∀ (σ' : L2.St) (H' : Hp), RB b c σ' H' 0 (tC (.str s)) (LnP 20 fun x => x = s) := fun s hs σ' H' => tx_ln (tx_c s) fun x e => by rw [e]; exact few_lits s hs
    -- one, two
    refine rb_ixl (b := b) (c := c) (H := H) (rbl_call (ls := placesAll)) (rb_d (n := 5) (i := 0) rfl (by decide) (by decide)) (fun ts i e h => by subst e; exact h) m H _ (But.refl b H) B (by omega) fun x G1 px s1 B1 => ?_
    obtain ⟨one, rfl, _, i1, rfl, _, h1⟩ := px
    refine rb_ixl (b := b) (c := c) (H := G1) rbl_ends (rb_d (n := 6) (i := 0) rfl (by decide) (by decide)) (fun ts i e h => by subst e; exact h) _ G1 _ (But.refl b G1) B1 (by omega) fun x G2 px s2 B2 => ?_
    obtain ⟨two, rfl, _, i2, rfl, _, h2⟩ := px
    refine ⟨_, _, rfl, ?_⟩
    show tSeq _ _ _ [some (.ref b), some (.str one), some (.str two), none, none, none, none, none, none] _
    -- three, goal
    refine rb_ixl (b := b) (c := c) (H := G2) rbl_ends (rb_d (n := 6) (i := 0) rfl (by decide) (by decide)) (fun ts i e h => by subst e; exact h) _ G2 _ (But.refl b G2) B2 (by omega) fun x G3 px s3 B3 => ?_
    obtain ⟨three, rfl, _, i3, rfl, _, h3⟩ := px
    refine rb_ixl (b := b) (c := c) (H := G3) (rbl_call (ls := placesAll)) (rb_1p (n := 4) (i := 0) rfl (by decide) (by decide)) (fun ts i e h => by subst e; exact Nat.lt_of_le_of_lt h.2 (by decide)) _ G3 _ (But.refl b G3) B3 (by omega) fun x G4 px s4 B4 => ?_
    obtain ⟨goal, rfl, _, i4, rfl, hi4, h4⟩ := px
    refine ⟨_, _, rfl, ?_⟩
    show tSeq _ _ _ [some (.ref b), some (.str one), some (.str two), some (.str three), some (.str goal), none, none, none, none] _
    have one_in : one ∈ placesAll := List.mem_of_getElem? h1
    have two_in : two ∈ ends6 := List.mem_of_getElem? h2
    have three_in : three ∈ ends6 := List.mem_of_getElem? h3
    have goal_in : goal ∈ goalsL := place_goal hi4.1 h4
    have b4 : But b H G4 := s1.trans (s2.trans (s3.trans s4))
    -- goals
    refine ⟨3, rfl, by decide, by decide, fun A5 nA5 => ?_⟩
    have A5b : A5 ≠ b := BagAt.ne B4 nA5
    have A5H : H A5 = none := none_back b4 nA5 A5b
    have A5c : A5 ≠ c := bag_cells B A5H
    refine lc_range (lo := 0) (n := 3) (fun i G => ∃ gs : List Str, But b H G ∧ BagAt c G b (m + 4 + i) ∧ G A5 = some (.lst (gs.map V.str)) ∧ gs.length = i ∧ ∀ g ∈ gs, g ∈ regsL)
      ⟨[], b4.trans (but_same (Same.new nA5)), BagAt.mono (BagAt.keep B4 (Same.new nA5)) (by omega), upd_same, rfl, fun g h => (nomatch h)⟩ ?_ ?_
    · rintro i G hi ⟨gs, sG, BG, gG, hl, hr⟩
      refine ⟨rfl, ?_⟩
      unfold tYes
      dsimp only
      refine ifT3 rfl ?_
      have rd := rb_ixl (K := K) (b := b) (c := c) (σ := [some (.ref b), some (.str one), some (.str two), some (.str three), some (.str goal), none, none, none, some (.int (0 + (i : Nat)))]) (H := G) (rbf_lst (ls_cons (tx_c "a") (ls_cons (tx_c "b") (ls_cons (tx_c "c") ls_nil))) (fun ts ⟨a, r, e, _, d, q, e2, _, g, q3, e4, _, e5⟩ => by subst e e2 e4 e5; exact (show 3 ≤ 900 by decide))).l (rb_d (n := 3) (i := 0) rfl (by decide) (by decide)) (fun ts j ⟨a, r, e, _, d, q, e2, _, g, q3, e4, _, e5⟩ h => by subst e e2 e4 e5; exact h)
      refine rd _ G _ (But.refl b G) BG (by omega) fun x G' px sX BX => ?_
      obtain ⟨g, rfl, ts, j, ⟨a, r, e, ea, d, q, e2, ed, g', q3, e4, eg, e5⟩, hj, hg⟩ := px
      have gm : g ∈ regsL := by
        subst e e2 e4 e5 ea ed eg
        exact List.mem_of_getElem? hg
      refine ⟨_, sX _ _ gG A5b, small1000 (by rw [List.length_map]; omega), gs ++ [g], but_write (sG.trans sX) A5H, BagAt.mono (bag_write BX A5b A5c) (by omega), by rw [upd_same, List.map_append]; rfl, by rw [List.length_append, hl]; rfl, fun z hz => ?_⟩
      rcases List.mem_append.mp hz with e | e
      · exact hr z e
      · rw [List.mem_singleton.mp e]; exact gm
    rintro G5 ⟨gs, b5, B5, g5, gl, gr⟩
    obtain ⟨g0, g1, g2, rfl⟩ : ∃ g0 g1 g2, gs = [g0, g1, g2] := by
      match gs, gl with
      | [a, b, c], _ => exact ⟨a, b, c, rfl⟩
    have r0 := gr g0 (by simp)
    have r1 := gr g1 (by simp)
    have r2 := gr g2 (by simp)
    refine gname_to rfl ?_
    dsimp only
    -- the pool
    have x1 := to_plain (ln_cat (ln_cat (ln_li (K := K) (b := b) (c := c) (σ := [some (.ref b), some (.str one), some (.str two), some (.str three), some (.str goal), some (.ref A5), none, none, none]) (H := G5) (v := 5) (i := 0) rfl g5 A5b rfl (fw4 g0 r0)) (ln_c (n := 20) " = " (by decide +kernel)) (by decide)) (ln_sum (v := 0) rfl) (by decide)) (fun s ⟨x, y, ⟨u, v, e1, e2, e3⟩, hs, e⟩ => by subst e e3 e1 e2; exact plain_sum r0 hs)
    have x2 := to_plain (ln_cat (ln_cat (ln_li (K := K) (b := b) (c := c) (σ := [some (.ref b), some (.str one), some (.str two), some (.str three), some (.str goal), some (.ref A5), none, none, none]) (H := G5) (v := 5) (i := 1) rfl g5 A5b rfl (fw4 g1 r1)) (ln_c (n := 20) " = size " (by decide +kernel)) (by decide)) (ln_v (i := 1) rfl (fw1 one one_in)) (by decide)) (fun s ⟨x, y, ⟨u, v, e1, e2, e3⟩, hs, e⟩ => by subst e e3 e1 e2 hs; exact (plain_size r1 one_in).1)
    refine asg_to ?_
    refine rp_lst (rp_cons ((tx_c "no").mono fun x ⟨s, e, h⟩ => ⟨s, e, by rw [h]; exact plain_word.1⟩) (rp_cons ((tx_c "quit").mono fun x ⟨s, e, h⟩ => ⟨s, e, by rw [h]; exact plain_word.2⟩) (rp_cons x1 (rp_cons x2 rp_nil)))) (by decide) _ G5 _ (But.refl b G5) B5 (by omega) fun q6 ts6 G6 p6 s6 B6 g6 n6 => ?_
    refine gname_to rfl ?_
    have g5 := s6 _ _ g5 A5b
    have q6b := BagAt.nel B6 g6
    have y1 := to_plain (ln_cat (ln_cat (ln_li (K := K) (b := b) (c := c) (σ := [some (.ref b), some (.str one), some (.str two), some (.str three), some (.str goal), some (.ref A5), some (.ref q6), none, none]) (H := G6) (v := 5) (i := 2) rfl g5 A5b rfl (fw4 g2 r2)) (ln_c (n := 20) " = size ahead " (by decide +kernel)) (by decide)) (ln_v (i := 1) rfl (fw1 one one_in)) (by decide)) (fun s ⟨x, y, ⟨u, v, e1, e2, e3⟩, hs, e⟩ => by subst e e3 e1 e2 hs; exact (plain_size r2 one_in).2)
    have y2 := to_plain (ln_cat (ln_cat (ln_v (b := b) (c := c) (σ := [some (.ref b), some (.str one), some (.str two), some (.str three), some (.str goal), some (.ref A5), some (.ref q6), none, none]) (H := G6) (i := 4) rfl (fw3 goal goal_in)) (ln_c (n := 20) " = " (by decide +kernel)) (by decide)) (ln_v (i := 1) rfl (fw1 one one_in)) (by decide)) (fun s ⟨x, y, ⟨u, v, e1, e2, e3⟩, hs, e⟩ => by subst e e3 e1 e2 hs; exact plain_goal goal_in one_in)
    refine asg_to ?_
    refine rp_cat (v := 6) rfl g6 q6b p6 (rp_cons y1 (rp_cons y2 rp_nil)) (by decide) _ G6 _ (But.refl b G6) B6 (by omega) fun q7 ts7 G7 p7 s7 B7 g7 n7 => ?_
    refine gname_to rfl ?_
    have q7b := BagAt.nel B7 g7
    have z1 := to_plain (ln_cat (ln_cat (ln_cat (ln_cat (ln_v (b := b) (c := c) (σ := [some (.ref b), some (.str one), some (.str two), some (.str three), some (.str goal), some (.ref A5), some (.ref q7), none, none]) (H := G7) (i := 4) rfl (fw3 goal goal_in)) (ln_c (n := 20) " = " (by decide +kernel)) (by decide)) (ln_v (i := 1) rfl (fw1 one one_in)) (by decide)) (tx_ln (n := 20) (tx_two (K := K) (v := 0) (x := " + ") (y := " - ") rfl) (fun s h => by rcases h with h | h <;> (rw [h]; decide +kernel))) (by decide)) (ln_sum (v := 0) rfl) (by decide)) (fun s ⟨x, y, ⟨u, v, ⟨u1, v1, ⟨u2, v2, e1, e2, e3⟩, e4, e5⟩, e6, e7⟩, hs, e⟩ => by subst e e7 e5 e4 e3 e1 e2; exact plain_off goal_in one_in e6 hs)
    have z2 := to_plain (ln_cat (ln_cat (ln_v (b := b) (c := c) (σ := [some (.ref b), some (.str one), some (.str two), some (.str three), some (.str goal), some (.ref A5), some (.ref q7), none, none]) (H := G7) (i := 4) rfl (fw3 goal goal_in)) (ln_c (n := 20) " = next " (by decide +kernel)) (by decide)) (ln_v (i := 2) rfl (fw2 two two_in)) (by decide)) (fun s ⟨x, y, ⟨u, v, e1, e2, e3⟩, hs, e⟩ => by subst e e3 e1 e2 hs; exact (plain_link goal_in two_in).1)
    refine asg_to ?_
    refine rp_cat (v := 6) rfl g7 q7b p7 (rp_cons z1 (rp_cons z2 rp_nil)) (by decide) _ G7 _ (But.refl b G7) B7 (by omega) fun q8 ts8 G8 p8 s8 B8 g8 n8 => ?_
    refine gname_to rfl ?_
    have q8b := BagAt.nel B8 g8
    have u1 := to_plain (ln_cat (ln_cat (ln_v (b := b) (c := c) (σ := [some (.ref b), some (.str one), some (.str two), some (.str three), some (.str goal), some (.ref A5), some (.ref q8), none, none]) (H := G8) (i := 4) rfl (fw3 goal goal_in)) (ln_c (n := 20) " = prev " (by decide +kernel)) (by decide)) (ln_v (i := 2) rfl (fw2 two two_in)) (by decide)) (fun s ⟨x, y, ⟨u, v, e1, e2, e3⟩, hs, e⟩ => by subst e e3 e1 e2 hs; exact (plain_link goal_in two_in).2)
    have u2 := to_plain (ln_cat (ln_cat (ln_cat (ln_c (b := b) (c := c) (σ := [some (.ref b), some (.str one), some (.str two), some (.str three), some (.str goal), some (.ref A5), some (.ref q8), none, none]) (H := G8) (n := 20) "next " (by decide +kernel)) (ln_v (i := 2) rfl (fw2 two two_in)) (by decide)) (ln_c (n := 20) " = " (by decide +kernel)) (by decide)) (ln_v (i := 3) rfl (fw2 three three_in)) (by decide)) (fun s ⟨x, y, ⟨u, v, ⟨u1, v1, e1, e2, e3⟩, e4, e5⟩, hs, e⟩ => by subst e e5 e4 e3 e1 e2 hs; exact (plain_links two_in three_in).1)
    have u3 := to_plain (ln_cat (ln_cat (ln_cat (ln_c (b := b) (c := c) (σ := [some (.ref b), some (.str one), some (.str two), some (.str three), some (.str goal), some (.ref A5), some (.ref q8), none, none]) (H := G8) (n := 20) "prev " (by decide +kernel)) (ln_v (i := 2) rfl (fw2 two two_in)) (by decide)) (ln_c (n := 20) " = " (by decide +kernel)) (by decide)) (ln_v (i := 3) rfl (fw2 three three_in)) (by decide)) (fun s ⟨x, y, ⟨u, v, ⟨u1, v1, e1, e2, e3⟩, e4, e5⟩, hs, e⟩ => by subst e e5 e4 e3 e1 e2 hs; exact (plain_links two_in three_in).2)
    refine asg_to ?_
    refine rp_cat (v := 6) rfl g8 q8b p8 (rp_cons u1 (rp_cons u2 (rp_cons u3 rp_nil))) (by decide) _ G8 _ (But.refl b G8) B8 (by omega) fun q9 ts9 G9 p9 s9 B9 g9 n9 => ?_
    refine gname_to rfl ?_
    have q9b := BagAt.nel B9 g9
    have b8 := b5.trans (s6.trans (s7.trans s8))
    have q9H : H q9 = none := none_back b8 n9 q9b
    have q9c : q9 ≠ c := bag_cells B q9H
    -- the flags
    refine asg_to ?_
    refine rbf_lst (b := b) (c := c) (σ := [some (.ref b), some (.str one), some (.str two), some (.str three), some (.str goal), some (.ref A5), some (.ref q9), none, none]) (H := G9) (ls_cons (tx_two (K := K) (v := 0) (x := "used") (y := "free") rfl) (ls_cons (tx_two (K := K) (v := 0) (x := "used") (y := "free") rfl) ls_nil)) (fun ts ⟨a, r, e, _, d, q, e2, _, e3⟩ => by subst e e2 e3; exact (show 2 ≤ 900 by decide)) _ G9 _ (But.refl b G9) B9 (by omega) fun q10 fs G10 pf s10 B10 g10 n10 => ?_
    obtain ⟨f0, _, rfl, hf0, f1, _, rfl, hf1, rfl⟩ := pf
    have flw : ("used" : Str) ∈ flagsL ∧ ("free" : Str) ∈ flagsL := by decide +kernel
    have m0 : f0 ∈ flagsL := by
      rcases hf0 with h | h
      · rw [h]; exact flw.1
      · rw [h]; exact flw.2
    have m1 : f1 ∈ flagsL := by
      rcases hf1 with h | h
      · rw [h]; exact flw.1
      · rw [h]; exact flw.2
    refine gname_to rfl ?_
    have q10b := BagAt.nel B10 g10
    have q910 : q9 ≠ q10 := fun z => by rw [z, n10] at g9; cases g9
    have g9 := s10 _ _ g9 q9b
    have hd := ln_cat (ln_cat (ln_cat (ln_cat (ln_cat (ln_cat (ln_cat (ln_c (b := b) (c := c) (σ := [some (.ref b), some (.str one), some (.str two), some (.str three), some (.str goal), some (.ref A5), some (.ref q9), some (.ref q10), none]) (H := G10) (n := 20) "head " (by decide +kernel)) (ln_v (i := 1) rfl (fw1 one one_in)) (by decide)) (ln_c (n := 20) " = " (by decide +kernel)) (by decide)) (ln_sum (v := 0) rfl) (by decide)) (ln_c (n := 20) " " (by decide +kernel)) (by decide)) (ln_li (K := K) (v := 7) (i := 0) rfl g10 q10b rfl (fw5 f0 m0)) (by decide)) (ln_c (n := 20) " " (by decide +kernel)) (by decide)) (ln_li (K := K) (v := 7) (i := 1) rfl g10 q10b rfl (fw5 f1 m1)) (by decide)
    refine ⟨_, rfl, .inl ⟨rfl, _, SqL.of g9⟩, ?_⟩
    refine hd _ G10 _ (But.refl b G10) B10 (by omega) fun x G11 px s11 B11 => ?_
    obtain ⟨hx, rfl, ⟨x1, y1, ⟨x2, y2, ⟨x3, y3, ⟨x4, y4, ⟨x5, y5, ⟨x6, y6, ⟨x7, y7, e1, e2, e3⟩, e4, e5⟩, hsum, e7⟩, e8, e9⟩, e10, e11⟩, e12, e13⟩, e14, e15⟩, _⟩ := px
    have ph : PlainP hx := by
      subst e15 e14 e13 e12 e11 e10 e9 e8 e7 e5 e4 e3 e2 e1
      exact plain_head one_in hsum m0 m1
    refine ⟨q9, _, _, rfl, rfl, s11 _ _ g9 q9b, small1000 (by rw [List.length_map, p9.1]; decide), ?_⟩
    have g10' := s11 _ _ g10 q10b
    have b11 := b8.trans (s9.trans (s10.trans s11))
    have B12 := bag_write (o := .lst (ts9.map V.str ++ [.str hx])) B11 q9b q9c
    have b12 := but_write (o := .lst (ts9.map V.str ++ [.str hx])) b11 q9H
    have g12 : upd G11 q9 (.lst (ts9.map V.str ++ [.str hx])) q9 = some (.lst ((ts9 ++ [hx]).map V.str)) := by rw [upd_same, List.map_append]; rfl
    have f12 : upd G11 q9 (.lst (ts9.map V.str ++ [.str hx])) q10 = some (.lst (([f0, f1] : List Str).map V.str)) := by rw [upd_ne q910.symm]; exact g10'
    generalize upd G11 q9 (.lst (ts9.map V.str ++ [.str hx])) = G12 at B12 b12 g12 f12 ⊢
    have p12 : AllP (9 + 3) (ts9 ++ [hx]) := ⟨by rw [List.length_append, p9.1]; rfl, fun t ht => (List.mem_append.mp ht).elim (p9.2 t) fun e => by rw [List.mem_singleton.mp e]; exact ph⟩
    dsimp only
    -- size, foot
    have w1 := to_plain (ln_cat (ln_cat (ln_cat (ln_c (b := b) (c := c) (σ := [some (.ref b), some (.str one), some (.str two), some (.str three), some (.str goal), some (.ref A5), some (.ref q9), some (.ref q10), none]) (H := G12) (n := 20) "size " (by decide +kernel)) (ln_v (i := 1) rfl (fw1 one one_in)) (by decide)) (ln_c (n := 20) " = " (by decide +kernel)) (by decide)) (ln_sum (v := 0) rfl) (by decide)) (fun s ⟨x, y, ⟨u, v, ⟨u1, v1, e1, e2, e3⟩, e4, e5⟩, hs, e⟩ => by subst e e5 e4 e3 e1 e2; exact plain_sized (h := "size") (.inl rfl) one_in hs)
    have w2 := to_plain (ln_cat (ln_cat (ln_cat (ln_c (b := b) (c := c) (σ := [some (.ref b), some (.str one), some (.str two), some (.str three), some (.str goal), some (.ref A5), some (.ref q9), some (.ref q10), none]) (H := G12) (n := 20) "foot " (by decide +kernel)) (ln_v (i := 1) rfl (fw1 one one_in)) (by decide)) (ln_c (n := 20) " = " (by decide +kernel)) (by decide)) (ln_sum (v := 0) rfl) (by decide)) (fun s ⟨x, y, ⟨u, v, ⟨u1, v1, e1, e2, e3⟩, e4, e5⟩, hs, e⟩ => by subst e e5 e4 e3 e1 e2; exact plain_sized (h := "foot") (.inr rfl) one_in hs)
    refine asg_to ?_
    refine rp_cat (v := 6) rfl g12 q9b p12 (rp_cons w1 (rp_cons w2 rp_nil)) (by decide) _ G12 _ (But.refl b G12) B12 (by omega) fun q13 ts13 G13 p13 s13 B13 g13 n13 => ?_
    refine gname_to rfl ?_
    have q13b := BagAt.nel B13 g13
    have f13 := s13 _ _ f12 q10b
    have v1 := to_plain (ln_cat (ln_cat (ln_li (K := K) (b := b) (c := c) (σ := [some (.ref b), some (.str one), some (.str two), some (.str three), some (.str goal), some (.ref A5), some (.ref q13), some (.ref q10), none]) (H := G13) (v := 7) (i := 0) rfl f13 q10b rfl (fw5 f0 m0)) (ln_c (n := 20) " " (by decide +kernel)) (by decide)) (ln_v (i := 1) rfl (fw1 one one_in)) (by decide)) (fun s ⟨x, y, ⟨u, v, e1, e2, e3⟩, hs, e⟩ => by subst e e3 e1 e2 hs; exact (plain_flag m0 one_in).1)
    have v2 := to_plain (ln_cat (ln_cat (ln_cat (ln_c (b := b) (c := c) (σ := [some (.ref b), some (.str one), some (.str two), some (.str three), some (.str goal), some (.ref A5), some (.ref q13), some (.ref q10), none]) (H := G13) (n := 20) "ahead " (by decide +kernel)) (ln_li (K := K) (v := 7) (i := 1) rfl f13 q10b rfl (fw5 f1 m1)) (by decide)) (ln_c (n := 20) " " (by decide +kernel)) (by decide)) (ln_v (i := 1) rfl (fw1 one one_in)) (by decide)) (fun s ⟨x, y, ⟨u, v, ⟨u1, v1, e1, e2, e3⟩, e4, e5⟩, hs, e⟩ => by subst e e5 e4 e3 e1 e2 hs; exact (plain_flag m1 one_in).2)
    refine asg_to ?_
    refine rp_cat (v := 6) rfl g13 q13b p13 (rp_cons v1 (rp_cons v2 rp_nil)) (by decide) _ G13 _ (But.refl b G13) B13 (by omega) fun q14 ts14 G14 p14 s14 B14 g14 n14 => ?_
    refine gname_to rfl ?_
    refine rb_ixl (K := K) (b := b) (c := c) (σ := [some (.ref b), some (.str one), some (.str two), some (.str three), some (.str goal), some (.ref A5), some (.ref q14), some (.ref q10), none]) (H := G14) (rbl_v (i := 6) rfl g14 (BagAt.nel B14 g14)) (rb_d (n := 16) (i := 0) rfl (by decide) (by decide)) (fun ts j e h => by subst e; rw [p14.1]; exact h) _ G14 _ (But.refl b G14) B14 (by omega) fun x G15 px s15 B15 => ?_
    obtain ⟨y, rfl, ts, j, rfl, hj, hy⟩ := px
    exact k y G15 (p14.2 y (List.mem_of_getElem? hy)) (b12.trans (s13.trans (s14.trans s15))) (BagAt.mono B15 (by omega))
end
end K14

set_option Elab.async false
set_option linter.all false
set_option maxRecDepth 100000
set_option maxHeartbeats 8000000
/-! k14, the law: lines that are none -/
namespace L2
open PySem
def rMulS : R2 := fun x y H Q => ∃ (i : Str) (k : Int), x = .str i ∧ y = .int k ∧ 2 ≤ k ∧ k ≤ 100 ∧ 1 ≤ i.length ∧ i.length ≤ 100 ∧ (PySem.Str.mk ((List.replicate k.toNat i.cps).foldl (· ++ ·) #[])).length ≤ 10000 ∧ Q (.str ⟨(List.replicate k.toNat i.cps).foldl (· ++ ·) #[]⟩) H
theorem op_mulS {X : Cx} : OpR X (binaryOp .Mult) rMulS := by
  intro pins s σ H x y v u Q I rx ry h
  obtain ⟨i, k, rfl, rfl, k0, k1, l0, l1, lz, q⟩ := h
  obtain ⟨t, rfl⟩ := rx
  obtain ⟨t', rfl⟩ := ry
  have e1 : ¬ k < 1 := by omega
  have e2 : (k == 1 || i.length == 0) = false := by
    rw [Bool.or_eq_false_iff]
    exact ⟨by simp; omega, by simp; omega⟩
  refine PySem.P.mul_str ?_ (fun _ _ => ?_) (fun _ _ => ?_) ?_
  · rw [decide_eq_false (by omega : ¬ k < -(2 ^ 63 : Int)), decide_eq_false (by omega : ¬ k ≥ 2 ^ 63)]
    rfl
  · have : (100 : Int) ≤ (2 ^ 63 - 1) / k := (Int.le_ediv_iff_mul_le (by omega)).mpr (by omega)
    omega
  · unfold PySem.Builtin.Str.tooLong
    refine decide_eq_false (Nat.not_lt.mpr ?_)
    have h1 : k.toNat ≤ 100 := by omega
    exact Nat.le_trans (Nat.mul_le_mul l1 h1) (by decide)
  · rw [if_neg e1, e2, if_neg Bool.false_ne_true]
    refine ⟨?_, ?_⟩
    · exact Nat.le_trans lz (by decide)
    · exact ⟨.str _, H, I.tok _, ⟨_, rfl⟩, q⟩
end L2
namespace K14
open PySem L2 K14D
abbrev sBad : Stmt := top 70
/-- the signs that a def's suite puts together -/
def litL (cur : List Nat) : Expr → List Nat
  | .Constant (.str s) _ _ => TL.tl s
  | .BinOp a .Add b _ => litL cur a ++ litL cur b
  | .BinOp a .Mult (.Constant (.int n) _ _) _ => (List.replicate n.toNat (litL cur a)).flatten
  | .Name _ _ => cur
  | _ => []
def litS (cur : List Nat) : Stmt → List Nat
  | .Assign _ e _ => litL cur e
  | _ => cur
def badC : List Nat := ((defBody sBad).take 11).foldl litS []
def badR : List (List Nat) := TL.spl [124] 0 [] badC
/-- a line that is none, whatever stands ahead of it -/
structure BadP (s : Str) : Prop where
  ln : Ln s
  no : lineB s = false
  nend : s ≠ "end"
  nels : s ≠ "else"
  len : s.length ≤ 60
def badB (s : Str) : Bool := (TL.tl s).all (fun c => decide (c < 128 ∧ c ≠ 10)) && (decide (s.length ≤ 60) && (!lineB s && (decide (s ≠ "end") && decide (s ≠ "else"))))
theorem bad_len : badR.length = 73 := by decide +kernel
theorem bad_allB : (badR.all fun c => badB ⟨c.toArray⟩) = true := by decide +kernel
theorem bar_tl : TL.tl ("|" : Str) = [124] := by decide +kernel
theorem bar_kind : ("|" : Str).cps.all (· < 256) = true := by decide +kernel
theorem bad_split {t : Str} (e : TL.tl t = badC) : (Txt.split t "|").map TL.tl = badR := by
  rw [TL.split_spl t "|" (by rw [bar_tl]; simp) (TL.kind_ok bar_kind), e, bar_tl]
  rfl
theorem bad_all {t s : Str} (e : TL.tl t = badC) (h : s ∈ Txt.split t "|") : BadP s := by
  have m : TL.tl s ∈ badR := by
    rw [← bad_split e]
    exact List.mem_map.mpr ⟨s, h, rfl⟩
  have z := List.all_eq_true.mp bad_allB _ m
  rw [show (⟨(TL.tl s).toArray⟩ : Str) = s from TL.mk_tl s] at z
  unfold badB at z
  obtain ⟨a, z⟩ := Bool.and_eq_true_iff.mp z
  obtain ⟨b, z⟩ := Bool.and_eq_true_iff.mp z
  obtain ⟨c, z⟩ := Bool.and_eq_true_iff.mp z
  obtain ⟨d, z⟩ := Bool.and_eq_true_iff.mp z
  have b := of_decide_eq_true b
  exact ⟨⟨fun c hc => (of_decide_eq_true (List.all_eq_true.mp a c hc) : c < 128 ∧ c ≠ 10), by omega⟩, by rw [Bool.not_eq_true'] at c; exact c, of_decide_eq_true d, of_decide_eq_true z, b⟩
theorem asg_add {b' z : Option V} {s x : Str} {n : Nat} {t : TS} {D : Ends} {H : Hp} (l : x.length ≤ n) (ls : s.length ≤ 130) (ln : n ≤ 3000) (h : (x ++ s).length ≤ n + 130 → t D [b', some (.str (x ++ s)), z] H) : tSeq (tAsg (tOp rAddS (tVar 1) (tC (.str s))) (gName 1)) t D [b', some (.str x), z] H :=
  ⟨_, rfl, _, _, rfl, rfl, Nat.le_trans (show x.length + s.length ≤ 3130 by omega) (by decide), h (by rw [add_len]; omega)⟩
theorem asg_c1 {b' y z : Option V} {v : V} {t : TS} {D : Ends} {H : Hp} (h : t D [b', some v, z] H) : tSeq (tAsg (tC v) (gName 1)) t D [b', y, z] H := h
theorem asg_mul {b' z : Option V} {s x u : Str} {m : Int} {n : Nat} {t : TS} {D : Ends} {H : Hp} (l : x.length ≤ n) (ls : s.length ≤ 130) (ln : n ≤ 3000) (n2 : 2 ≤ m) (n1 : m ≤ 100) (u1 : 1 ≤ u.length) (u2 : u.length ≤ 100) (ul : (PySem.Str.mk ((List.replicate m.toNat u.cps).foldl (· ++ ·) #[])).length ≤ 130)
    (h : ((x ++ s) ++ PySem.Str.mk ((List.replicate m.toNat u.cps).foldl (· ++ ·) #[])).length ≤ n + 260 → t D [b', some (.str (x ++ s ++ ⟨(List.replicate m.toNat u.cps).foldl (· ++ ·) #[]⟩)), z] H) :
    tSeq (tAsg (tOp rAddS (tOp rAddS (tVar 1) (tC (.str s))) (tOp rMulS (tC (.str u)) (tC (.int m)))) (gName 1)) t D [b', some (.str x), z] H := by
  have e : (x ++ s).length = x.length + s.length := add_len _ _
  exact ⟨_, rfl, _, _, rfl, rfl, Nat.le_trans (show x.length + s.length ≤ 3130 by omega) (by decide), u, m, rfl, rfl, n2, n1, u1, u2, Nat.le_trans ul (by decide), _, _, rfl, rfl, Nat.le_trans (show _ ≤ 3260 by omega) (by decide), h (by rw [add_len]; omega)⟩
abbrev nmBad : List Str := ["_law_bag_here", "_law_text", "_law_pool"]
theorem scBad : FnScope nmBad ["_law_bag_here"] (defScope sBad) := ⟨rfl, rfl, rfl, by decide +kernel, rfl, by decide +kernel, by decide +kernel⟩
section
variable {P : Program} {w : World} {K : PySem.W.Frag} {mg : Str → Option Value} {base : Heap}
theorem bad_tail {b c : Addr} {m : Nat} {H : Hp} {D : Ends} {t : Str} (e : TL.tl t = badC) (lt : t.length ≤ 3000) (B : BagAt c H b m) (hm : m + 1 ≤ 90000) (k : ∀ (x : Str) (G : Hp), BadP x → But b H G → BagAt c G b (m + 1) → D.rt (.str x) G) :
    tSeq (tAsg (tM1 (fun x xs H Q => ∃ a b, x = V.str a ∧ xs = [V.str b] ∧ (b.length == 0) = false ∧ a.length + 2 ≤ sizeLine ∧ rNewStrs (Txt.split a b) H Q) (tVar 1) (tC (.str "|"))) (gName 2))
      (tRet (tOp (rIxL K) (tVar 2) (tCall spDraw [] E0 (tCons (tVar 0) (tCons (tCB (rLenS K) (tCons (tVar 2) tNil)) tNil))))) D [some (.ref b), some (.str t), none] H := by
  have ln : (Txt.split t "|").length = 73 := by rw [← List.length_map (f := TL.tl), bad_split e, bad_len]
  refine ⟨_, rfl, ⟨_, rfl⟩, t, "|", rfl, rfl, by decide +kernel, Nat.le_trans (show t.length + 2 ≤ 3002 by omega) (by decide), fun q nq => ?_⟩
  refine gname_to (σ2 := [some (.ref b), some (.str t), some (.ref q)]) rfl ?_
  have t1 := Same.new (o := .lst ((Txt.split t "|").map V.str)) nq
  have gq : upd H q (.lst ((Txt.split t "|").map V.str)) q = some (.lst ((Txt.split t "|").map V.str)) := upd_same
  have B1 := BagAt.keep B t1
  have qb := BagAt.ne B nq
  have d := rb_ixl (K := K) (b := b) (c := c) (σ := [some (.ref b), some (.str t), some (.ref q)]) (H := upd H q (.lst ((Txt.split t "|").map V.str))) (rbl_v (i := 2) rfl gq qb)
    (rb_draw (i := 0) (k := 0) (pn := fun n => n = 73) rfl ((rb_len (K := K) (v := 2) rfl gq qb).mono fun x ⟨n, e, e2⟩ => ⟨n, e, by rw [e2, List.length_map, ln]⟩) (fun n e => by
      have e30 : 1000 ≤ (10 : Nat) ^ 30 := by decide
      omega)) (fun ts j e ⟨n, e2, h⟩ => by subst e e2; rw [ln]; exact h)
  refine ret_rb d B1 (by omega) fun x G px sG BG => ?_
  obtain ⟨s, rfl, ts, j, rfl, _, hs⟩ := px
  exact k s G (bad_all e (List.mem_of_getElem? hs)) ((but_same t1).trans sG) (BagAt.mono BG (by omega))
theorem ok_bad {f fD : Addr} {fd fdD : FuncData} (F : Fun K "_law_bad" "_law_bad" sBad f fd) (T : TxtN mg)
    (GD : FnOk P w K mg base CX0 1 fD fdD ["_law_bag_here", "_law_limit"] spDraw) (kD : PySem.W.keepIn K (.ref fD) = true) (bD : Binds K fdD ["_law_bag_here", "_law_limit"] []) (gD : mg "_law_draw" = some (.ref fD)) : FnOk P w K mg base CX0 2 f fd ["_law_bag_here"] (spTx 1 BadP) := by
  have sc := scBad
  refine F.ok scBad (fun vs H Q E h => ?_) (fun cdv A outer s H vs Q E hr h => ?_)
  · obtain ⟨b, c, m, rfl, _⟩ := h
    rfl
  · obtain ⟨b, c, m, rfl, B, hm, k⟩ := h
    have hr1 : Room 1 _ := hr.mono (by decide)
    refine ⟨_, pss_cons (ps_set (i := 1) sc.nd rfl (.inl rfl) pe_str)
      (pss_cons (ps_set (i := 1) sc.nd rfl (.inl rfl) (pe_op op_add_str (pv 1) pe_str))
      (pss_cons (ps_set (i := 1) sc.nd rfl (.inl rfl) (pe_op op_add_str (pv 1) pe_str))
      (pss_cons (ps_set (i := 1) sc.nd rfl (.inl rfl) (pe_op op_add_str (pv 1) pe_str))
      (pss_cons (ps_set (i := 1) sc.nd rfl (.inl rfl) (pe_op op_add_str (pv 1) pe_str))
      (pss_cons (ps_set (i := 1) sc.nd rfl (.inl rfl) (pe_op op_add_str (pv 1) pe_str))
      (pss_cons (ps_set (i := 1) sc.nd rfl (.inl rfl) (pe_op op_add_str (pv 1) pe_str))
      (pss_cons (ps_set (i := 1) sc.nd rfl (.inl rfl) (pe_op op_add_str (pv 1) pe_str))
      (pss_cons (ps_set (i := 1) sc.nd rfl (.inl rfl) (pe_op op_add_str (pv 1) pe_str))
      (pss_cons (ps_set (i := 1) sc.nd rfl (.inl rfl) (pe_op op_add_str (pv 1) pe_str))
      (pss_cons (ps_set (i := 1) sc.nd rfl (.inl rfl) (pe_op op_add_str (pe_op op_add_str (pv 1) pe_str) (pe_op op_mulS pe_str pe_int)))
      (pss_cons (ps_set (i := 2) sc.nd rfl (.inl rfl) (pe_split (pv 1) pe_str))
      (pss_one (ps_ret (pe_ix ix_list (pv 2) (pe_call GD hr1 rfl gD kD bD .nil pass0 (pa_cons (pv 0) (pa_cons (pe_callB call_len_seq (by rfl) T.len PySem.boot_len (pa_cons (pv 2) pa_nil)) pa_nil))) (fun _ _ => rfl))))))))))))))), ?_⟩
    refine asg_c1 ?_
    refine asg_add (n := 130) (by decide +kernel) (by decide +kernel) (by decide) fun l1 => ?_
    refine asg_add l1 (by decide +kernel) (by decide) fun l2 => ?_
    refine asg_add l2 (by decide +kernel) (by decide) fun l3 => ?_
    refine asg_add l3 (by decide +kernel) (by decide) fun l4 => ?_
    refine asg_add l4 (by decide +kernel) (by decide) fun l5 => ?_
    refine asg_add l5 (by decide +kernel) (by decide) fun l6 => ?_
    refine asg_add l6 (by decide +kernel) (by decide) fun l7 => ?_
    refine asg_add l7 (by decide +kernel) (by decide) fun l8 => ?_
    refine asg_add l8 (by decide +kernel) (by decide) fun l9 => ?_
    refine asg_mul l9 (by decide +kernel) (by decide) (by decide) (by decide) (by decide +kernel) (by decide +kernel) (by decide +kernel) fun l10 => ?_
    refine bad_tail ?_ (by omega) B hm k
    simp only [TL.tl_append]
    decide +kernel
end
end K14

set_option Elab.async false
set_option linter.all false
set_option maxRecDepth 100000
set_option maxHeartbeats 8000000
/-! k14, the law: what is told of a text, the mathematics -/
namespace K14
open PySem L2 K14D
theorem nl_tl : TL.tl ("\n" : Str) = [10] := by decide +kernel
theorem nl_kind : ("\n" : Str).cps.all (· < 256) = true := by decide +kernel
theorem empty_tl : TL.tl Str.empty = [] ∧ TL.tl ("" : Str) = [] := by decide +kernel
theorem text_ok {rows : List Str} (h : ∀ r ∈ rows, Ln r ∧ r.length ≤ 500) (l : rows.length ≤ 40) (n : ∃ r ∈ rows, 1 ≤ r.length) : TextOk rows := by
  refine ⟨l, fun r hr => (h r hr).1.row, fun r hr => (h r hr).2, ?_⟩
  obtain ⟨r, hr, r1⟩ := n
  have ne : rows ≠ [] := fun z => by rw [z] at hr; cases hr
  have j : TL.tl (Txt.join "\n" rows) = TL.joinL [10] (rows.map TL.tl) := by rw [TL.join_eq, TL.tl_join, nl_tl]
  have jl := joinL_long (S := [10]) (List.mem_map.mpr ⟨r, hr, rfl⟩ : TL.tl r ∈ rows.map TL.tl)
  have hl : (TL.tl r).length = r.length := rfl
  unfold linesM
  rw [if_neg (fun z => by
    have e := congrArg TL.tl z
    rw [j, empty_tl.1] at e
    rw [e] at jl
    simp only [List.length_nil] at jl
    omega)]
  exact TL.split_join nl_tl nl_kind ne fun p hp c => ((h p hp).1.ok 10 c).2 rfl
theorem text_nil : TextOk [] := ⟨Nat.zero_le _, fun r h => (by cases h), fun r h => (by cases h), by
  have e : Txt.join "\n" [] = Str.empty := by decide +kernel
  unfold linesM
  rw [e, if_pos rfl]⟩
theorem told_eq {rows : List Str} (h : ∀ r ∈ rows, Ln r) : toldN rows = (badN rows 0 []).getD 0 := by
  unfold toldN
  rw [bad_eq rows 0 [] h]
/-- behind rows that are read: a row that is none -/
theorem told_bad {a b : List Str} {x : Str} {n : List Str} (h : ∀ r ∈ a ++ x :: b, Ln r) (ra : run a [] = some n) (hx : stepN x n = none) : toldN (a ++ x :: b) = a.length + 1 := by
  rw [told_eq h, badN_app ra, badN_bad hx, Nat.zero_add]
  rfl
/-- a text cut within a block -/
theorem told_cut {a n : List Str} (h : ∀ r ∈ a, Ln r) (ra : run a [] = some n) (hn : n ≠ []) : toldN a = a.length + 1 := by
  have e := badN_app (b := []) (i := 0) ra
  rw [List.append_nil, Nat.zero_add] at e
  rw [told_eq h, e]
  show (if n = [] then none else some (a.length + 1)).getD 0 = _
  rw [if_neg hn]
  rfl
theorem told_good {a : List Str} (h : ∀ r ∈ a, Ln r) (ra : run a [] = some []) : toldN a = 0 := by
  have e := badN_app (b := []) (i := 0) ra
  rw [List.append_nil] at e
  rw [told_eq h, e]
  rfl
theorem run_app {a b : List Str} : ∀ {n m k : List Str}, run a n = some m → run b m = some k → run (a ++ b) n = some k := by
  induction a with
  | nil =>
    intro n m k h g
    cases h
    exact g
  | cons r rs ih =>
    intro n m k h g
    have h' : (match stepN r n with
      | none => none
      | some n2 => run rs n2) = some m := h
    show (match stepN r n with
      | none => none
      | some n2 => run (rs ++ b) n2) = some k
    cases e : stepN r n with
    | none => rw [e] at h'; cases h'
    | some n1 =>
      rw [e] at h'
      exact ih h' g
theorem run_cons {x : Str} {r n n2 k : List Str} (h : stepN x n = some n2) (g : run r n2 = some k) : run (x :: r) n = some k := by
  show (match stepN x n with
    | none => none
    | some n2 => run r n2) = some k
  rw [h]
  exact g
/-- how deep a place stands -/
def deepN (rows : List (Str × Nat)) (p : Nat) : Nat := match rows[p]? with
  | some q => q.2
  | none => 0
theorem spot_nest {rows : List (Str × Nat)} (h : OkR rows [] []) (p : Nat) : ∃ np, run ((rows.map (·.1)).take p) [] = some np ∧ np.length = deepN rows p := by
  have s : rows = rows.take p ++ rows.drop p := (List.take_append_drop p rows).symm
  unfold deepN
  cases e : rows[p]? with
  | none =>
    have l := List.getElem?_eq_none_iff.mp e
    refine ⟨[], ?_, rfl⟩
    rw [List.take_of_length_le (by rw [List.length_map]; exact l)]
    exact h.run
  | some q =>
    obtain ⟨x, d⟩ := q
    obtain ⟨nj, n2, h1, h2, _⟩ := h.at e
    refine ⟨nj, ?_, h2⟩
    rw [← List.map_take]
    exact h1.run
theorem spot_line {rows : List (Str × Nat)} (h : OkR rows [] []) {p : Nat} {x : Str} {d : Nat} (e : rows[p]? = some (x, d)) : ∃ np n2, run ((rows.map (·.1)).take p) [] = some np ∧ np.length = d ∧ DrP x ∧ stepN x np = some n2 ∧ run ((rows.map (·.1)).drop (p + 1)) n2 = some [] := by
  obtain ⟨nj, n2, h1, h2, h3, h4, h5⟩ := h.at e
  refine ⟨nj, n2, ?_, h2, h3, h4, ?_⟩
  · rw [← List.map_take]
    exact h1.run
  · rw [← List.map_drop]
    exact h5.run
theorem step_bad {x : Str} {n : List Str} (h : lineB x = false) (h1 : x ≠ "end") (h2 : x ≠ "else") : stepN x n = none := by
  unfold stepN
  rw [if_neg h1, if_neg h2, h]
  rfl
theorem step_line {x : Str} {n n2 : List Str} (h : stepN x n = some n2) (h1 : x ≠ "end") (h2 : x ≠ "else") : lineB x = true ∧ n2 = if ifP x = true then n ++ [("if" : Str)] else n := by
  unfold stepN at h
  rw [if_neg h1, if_neg h2] at h
  by_cases c : lineB x = true
  · rw [if_pos c] at h
    exact ⟨c, (Option.some.inj h).symm⟩
  · rw [if_neg c] at h; cases h
/-- a line put in the place of another one -/
theorem told_put {rows : List (Str × Nat)} (h : OkR rows [] []) {p : Nat} {x y : Str} {d : Nat} (e : rows[p]? = some (x, d)) (hx1 : x ≠ "end") (hx2 : x ≠ "else") (hy1 : y ≠ "end") (hy2 : y ≠ "else") (hy : Ln y) (h3 : if3 y = if3 x) :
    toldN ((rows.map (·.1)).take p ++ y :: (rows.map (·.1)).drop (p + 1)) = if lineB y = true then 0 else p + 1 := by
  obtain ⟨np, n2, r1, _, hx, s1, r2⟩ := spot_line h e
  obtain ⟨bx, en⟩ := step_line s1 hx1 hx2
  have all : ∀ r ∈ (rows.map (·.1)).take p ++ y :: (rows.map (·.1)).drop (p + 1), Ln r := fun r hr => by
    have ok : ∀ r ∈ rows.map (·.1), Ln r := fun r hr => by
      obtain ⟨q, hq, rfl⟩ := List.mem_map.mp hr
      exact (h.all q hq).ln
    rcases List.mem_append.mp hr with hr | hr
    · exact ok r (List.take_subset _ _ hr)
    · rcases List.mem_cons.mp hr with hr | hr
      · rw [hr]; exact hy
      · exact ok r (List.drop_subset _ _ hr)
  have lp : ((rows.map (·.1)).take p).length = p := by
    rw [List.length_take, List.length_map]
    have := (List.getElem?_eq_some_iff.mp e).1
    omega
  by_cases c : lineB y = true
  · rw [if_pos c]
    refine told_good all (run_app r1 (run_cons (n2 := n2) ?_ r2))
    unfold stepN
    rw [if_neg hy1, if_neg hy2, if_pos c, en, ← if3_eq hy c, ← if3_eq hx.ln bx, h3]
  · rw [if_neg c, told_bad all r1 (step_bad (by rw [Bool.eq_false_iff]; exact c) hy1 hy2), lp]
theorem none_open : stepN "end" [] = none ∧ stepN "else" [] = none := by
  have e5 : ¬ (("else" : Str) = "end") := els_words.2.2.2.2
  constructor
  · unfold stepN
    rw [if_pos rfl, if_pos rfl]
  · unfold stepN
    rw [if_neg e5, if_pos rfl, if_pos (.inl rfl)]
/-! ### the two closed texts -/
def txtA : List Str := ["if a < 1", "else", "if b < 1", "else", "end", "else", "end"]
def txtB : List Str := ["if a < 1", "else", "else", "end"]
theorem closed_ln : ∀ r ∈ txtA ++ txtB, (∀ c ∈ TL.tl r, c < 128 ∧ c ≠ 10) ∧ r.length ≤ 500 ∧ 1 ≤ r.length := by decide +kernel
theorem closed_told : badN txtA 0 [] = some 6 ∧ badN txtB 0 [] = some 3 := by decide +kernel
theorem closed_ok : (TextOk txtA ∧ toldN txtA = 6) ∧ (TextOk txtB ∧ toldN txtB = 3) := by
  have k : ∀ r ∈ txtA ++ txtB, Ln r ∧ r.length ≤ 500 := fun r hr => by
    obtain ⟨a, b, _⟩ := closed_ln r hr
    exact ⟨⟨a, by omega⟩, b⟩
  have hA : ∀ r ∈ txtA, Ln r ∧ r.length ≤ 500 := fun r hr => k r (List.mem_append_left _ hr)
  have hB : ∀ r ∈ txtB, Ln r ∧ r.length ≤ 500 := fun r hr => k r (List.mem_append_right _ hr)
  refine ⟨⟨text_ok hA (by decide) ⟨"if a < 1", List.mem_cons_self .., by decide +kernel⟩, ?_⟩, ⟨text_ok hB (by decide) ⟨"if a < 1", List.mem_cons_self .., by decide +kernel⟩, ?_⟩⟩
  · rw [told_eq fun r hr => (hA r hr).1, closed_told.1]
    rfl
  · rw [told_eq fun r hr => (hB r hr).1, closed_told.2]
    rfl
end K14

set_option Elab.async false
set_option linter.all false
set_option maxRecDepth 100000
set_option maxHeartbeats 8000000
/-! k14, the law: how deep a text is open; readers of tests under draws -/
namespace K14
open PySem L2 K14D
abbrev sOpen : Stmt := top 78
theorem if3_cut {x : Str} : decide (V.str (cutS x none (some 3)) = V.str "if ") = if3 x := by
  have e : TL.tl (cutS x none (some 3)) = (TL.tl x).take 3 := by
    unfold cutS
    show ((x.cps.toList.drop 0).take (HT.sIx x.length x.length (some ((3 : Nat) : Int)) - 0)) = _
    rw [HT.sIx_nat]
    show (TL.tl x).take (min 3 x.length) = _
    rw [show x.length = (TL.tl x).length from rfl, ← List.take_eq_take_min]
  have i3 : TL.tl ("if " : Str) = [105, 102, 32] := by decide +kernel
  rw [dec_str]
  unfold if3
  refine decide_eq_decide.mpr ⟨fun z => by rw [← e, z, i3], fun z => TL.ext_tl (by rw [e, i3]; exact z)⟩
def spOpen : Sp := fun vs H Q _ => ∃ (a : Addr) (x : Str) (d : Nat), vs = [.ref a] ∧ H a = some (.tup [.str x, .int (d : Nat)]) ∧ x.length ≤ 1000 ∧ ∀ H', Same H H' → Q (.int ((d : Int) + (if if3 x = true then 1 else 0) - (if x = "end" then 1 else 0))) H'
abbrev nmOpen : List Str := ["_law_row", "_law_line", "_law_deep"]
theorem scOpen : FnScope nmOpen ["_law_row"] (defScope sOpen) := ⟨rfl, rfl, rfl, by decide +kernel, rfl, by decide +kernel, by decide +kernel⟩
section
variable {P : Program} {w : World} {K : PySem.W.Frag} {mg : Str → Option Value} {base : Heap}
theorem ok_open1 {f : Addr} {fd : FuncData} (F : Fun K "_law_open" "_law_open" sOpen f fd) (T : TxtB mg) : FnOk P w K mg base CX0 1 f fd ["_law_row"] spOpen := by
  have sc := scOpen
  refine F.ok scOpen (fun vs H Q E h => ?_) (fun cdv A outer s H vs Q E hr h => ?_)
  · obtain ⟨a, x, d, rfl, _⟩ := h
    rfl
  · obtain ⟨a, x, d, rfl, ha, hl, k⟩ := h
    refine ⟨_, pss_cons (ps_asg (pv 0) (pg_tup rfl (pgs_cons (pg_name (i := 1) sc.nd rfl (Or.inl rfl)) (pgs_cons (pg_name (i := 2) sc.nd rfl (Or.inl rfl)) pgs_nil))))
      (pss_one (ps_ret (pe_op op_sub (pe_op op_add (pv 2) (pe_callTy call_int1 (by rfl) T.int (by decide +kernel) (pa_cons (pe_cmpR op_eq (pe_slice sl_str (pv 1) po_none (po_some pe_int)) pe_str (nomark _)) pa_nil))) (pe_callTy call_int1 (by rfl) T.int (by decide +kernel) (pa_cons (pe_cmpR op_eq (pv 1) pe_str (nomark _)) pa_nil))))), ?_⟩
    refine ⟨_, rfl, a, _, rfl, .inl (.inl ha), rfl, _, _, rfl, _, _, rfl, rfl, ?_⟩
    refine ⟨_, rfl, _, rfl, _, rfl, x, rfl, Nat.le_of_lt (small1000 (by omega)), rfl, ?_⟩
    rw [if3_cut]
    refine .inr ⟨_, rfl, _, _, rfl, rfl, _, rfl, rfl, .inr ⟨_, rfl, _, _, rfl, rfl, ?_⟩⟩
    rw [dec_str]
    have z := k H (Same.self H)
    by_cases c : x = "end"
    · rw [if_pos c] at z
      rw [decide_eq_true c]
      exact z
    · rw [if_neg c] at z
      rw [decide_eq_false c]
      exact z
end
/-! ### readers under draws -/
/-- t tests v, behind at most k draws -/
def RBT (b c : Addr) (σ : L2.St) (H : Hp) (k : Nat) (t : TT) (v : Bool) : Prop := ∀ m H' Q, But b H H' → BagAt c H' b m → m + k ≤ 90000 → (∀ G, But b H' G → BagAt c G b (m + k) → Q v G) → t σ H' Q
/-- t reads x -/
abbrev RBX (b c : Addr) (σ : L2.St) (H : Hp) (k : Nat) (t : TE) (x : V) : Prop := RB b c σ H k t (fun y => y = x)
section
variable {b c : Addr} {σ : L2.St} {H : Hp} {k k1 k2 : Nat} {t u : TE} {tt ut : TT} {K : PySem.W.Frag} {PA : List Str → Prop}
theorem rbt (h : RBX b c σ H k t (.bl v)) : RBT b c σ H k (tTest t) v := fun m H' Q s B l q => h m H' _ s B l fun x G e sG BG => by
  subst e
  exact ⟨_, rfl, q G sG BG⟩
theorem rbt_and {x y : Bool} (h : RBT b c σ H k1 tt x) (g : x = true → RBT b c σ H k2 ut y) : RBT b c σ H (k1 + k2) (tAnd tt ut) (x && y) := fun m H' Q s B l q => by
  refine h m H' _ s B (by omega) fun G1 s1 B1 => ?_
  cases x with
  | true =>
    refine ifT3 rfl ?_
    exact g rfl (m + k1) G1 _ (s.trans s1) B1 (by omega) fun G2 s2 B2 => q G2 (s1.trans s2) (by rw [← Nat.add_assoc]; exact B2)
  | false =>
    refine ifF3 rfl ?_
    exact q G1 s1 (BagAt.mono B1 (by omega))
theorem rbx_mono {x : V} (h : RBX b c σ H k1 t x) (i : k1 ≤ k2) : RBX b c σ H k2 t x := RB.more h i
theorem rbx_2 {r : R2} {x y z : V} (h : RBX b c σ H k1 t x) (g : RBX b c σ H k2 u y) (e : ∀ (G : Hp) (Q : VK), Q z G → r x y G Q) : RBX b c σ H (k1 + k2) (tOp r t u) z := fun m H' Q s B l q => by
  refine h m H' _ s B (by omega) fun v G1 p s1 B1 => ?_
  subst p
  refine g (m + k1) G1 _ (s.trans s1) B1 (by omega) fun v G2 p s2 B2 => ?_
  subst p
  exact e G2 _ (q _ G2 rfl (s1.trans s2) (by rw [← Nat.add_assoc]; exact B2))
theorem rbx_lt {m n : Nat} (h : RBX b c σ H k1 t (.int (m : Nat))) (g : RBX b c σ H k2 u (.int (n : Nat))) : RBX b c σ H (k1 + k2) (tOp (rI0 fun i j => V.bl (decide (i < j))) t u) (.bl (decide (m < n))) := rbx_2 h g fun G Q q => ⟨_, _, rfl, rfl, by
  dsimp only
  rw [show decide ((m : Int) < (n : Int)) = decide (m < n) from decide_eq_decide.mpr ⟨fun z => by omega, fun z => by omega⟩]
  exact q⟩
theorem rbx_gt {m n : Nat} (h : RBX b c σ H k1 t (.int (m : Nat))) (g : RBX b c σ H k2 u (.int (n : Nat))) : RBX b c σ H (k1 + k2) (tOp (rI0 fun i j => V.bl (decide (j < i))) t u) (.bl (decide (n < m))) := rbx_2 h g fun G Q q => ⟨_, _, rfl, rfl, by
  dsimp only
  rw [show decide ((n : Int) < (m : Int)) = decide (n < m) from decide_eq_decide.mpr ⟨fun z => by omega, fun z => by omega⟩]
  exact q⟩
theorem rbx_add {m n : Nat} (h : RBX b c σ H k1 t (.int (m : Nat))) (g : RBX b c σ H k2 u (.int (n : Nat))) : RBX b c σ H (k1 + k2) (tOp (rI0 fun i j => V.int (i + j)) t u) (.int ((m + n : Nat) : Int)) := rbx_2 h g fun G Q q => ⟨_, _, rfl, rfl, q⟩
theorem rbx_eqn {m n : Nat} (h : RBX b c σ H k1 t (.int (m : Nat))) (g : RBX b c σ H k2 u (.int (n : Nat))) : RBX b c σ H (k1 + k2) (tOp rEq t u) (.bl (decide (m = n))) := rbx_2 h g fun G Q q => ⟨rfl, by rw [dec_nat]; exact q⟩
theorem rbx_nen {m n : Nat} (h : RBX b c σ H k1 t (.int (m : Nat))) (g : RBX b c σ H k2 u (.int (n : Nat))) : RBX b c σ H (k1 + k2) (tOp rNe t u) (.bl (!decide (m = n))) := rbx_2 h g fun G Q q => ⟨rfl, by rw [dec_nat]; exact q⟩
theorem rbx_eqs {x y : Str} (h : RBX b c σ H k1 t (.str x)) (g : RBX b c σ H k2 u (.str y)) : RBX b c σ H (k1 + k2) (tOp rEq t u) (.bl (decide (x = y))) := rbx_2 h g fun G Q q => ⟨rfl, by rw [dec_str]; exact q⟩
theorem rbx_eqb {x y : Bool} (h : RBX b c σ H k1 t (.bl x)) (g : RBX b c σ H k2 u (.bl y)) : RBX b c σ H (k1 + k2) (tOp rEq t u) (.bl (decide (x = y))) := rbx_2 h g fun G Q q => ⟨rfl, by
  rw [show decide (V.bl x = V.bl y) = decide (x = y) from decide_eq_decide.mpr ⟨fun z => V.bl.inj z, fun z => by rw [z]⟩]
  exact q⟩
theorem rbx_len {v : Nat} {a : Addr} {xs : List V} (hv : σ[v]? = some (some (.ref a))) (ha : H a = some (.lst xs)) (ab : a ≠ b) : RBX b c σ H 0 (tCB (rLenS K) (tCons (tVar v) tNil)) (.int (xs.length : Nat)) := fun m H' Q s B l q => ⟨_, hv, a, _, rfl, .inl (SqL.of (s _ _ ha ab)), q _ H' rfl (But.refl b H') B⟩
theorem rbx_ix {v i p : Nat} {a : Addr} {xs : List V} {x : V} (hv : σ[v]? = some (some (.ref a))) (ha : H a = some (.lst xs)) (ab : a ≠ b) (hi : σ[i]? = some (some (.int (p : Nat)))) (hx : xs[p]? = some x) : RBX b c σ H 0 (tOp (rIxL K) (tVar v) (tVar i)) x := fun m H' Q s B l q =>
  ⟨_, hv, _, hi, a, _, _, _, rfl, rfl, SqL.of (s _ _ ha ab), atI_nat hx, q _ H' rfl (But.refl b H') B⟩
theorem rbx_cut3 {x : Str} (h : RBX b c σ H k t (.str x)) (l : x.length ≤ 1000) : RBX b c σ H k (tSl rSlS t tNoPart (tPart (tC (.int 3)))) (.str (cutS x none (some 3))) := fun m H' Q s B l2 q => h m H' _ s B l2 fun v G p sG BG => by
  subst p
  exact ⟨_, rfl, x, rfl, Nat.le_of_lt (small1000 (by omega)), q _ G rfl sG BG⟩
theorem rbx_if3 {x : Str} (h : RBX b c σ H k t (.str x)) (l : x.length ≤ 1000) : RBX b c σ H (k + 0) (tOp rEq (tSl rSlS t tNoPart (tPart (tC (.int 3)))) (tC (.str "if "))) (.bl (if3 x)) := rbx_2 (rbx_cut3 h l) (rb_c (.str "if ")) fun G Q q => ⟨rfl, by rw [if3_cut]; exact q⟩
theorem rbx_ends {x : Str} (h : RBX b c σ H k t (.str x)) : RBX b c σ H (k + 0) (tOp (rIn K true) t (tLst (tCons (tC (.str "end")) (tCons (tC (.str "else")) tNil)))) (.bl (!decide (x = "end" ∨ x = "else"))) := fun m H' Q s B l q => by
  refine h m H' _ s B (by omega) fun v G p sG BG => ?_
  subst p
  refine ⟨(by show 2 ≤ sizeLine; decide), fun p np => ?_⟩
  have t := Same.new (o := .lst [V.str "end", V.str "else"]) np
  refine ⟨p, [V.str "end", V.str "else"], rfl, .inl (SqL.of upd_same), rfl, rfl, ?_⟩
  have e : inV (V.str x) [V.str "end", V.str "else"] = decide (x = "end" ∨ x = "else") := by
    have z := inV_str x ["end", "else"]
    rw [show [V.str "end", V.str "else"] = (["end", "else"] : List Str).map V.str from rfl, z]
    exact decide_eq_decide.mpr (by simp)
  show Q (.bl (if true = true then !inV _ _ else _)) _
  rw [if_pos rfl, e]
  exact q _ _ rfl (sG.trans (but_same t)) (BagAt.keep BG t)
/-- a slice of a list of texts -/
theorem rbl_cut {v : Nat} {a : Addr} {ts us : List Str} {lo hi : Option Int} {tl th : TO} (hv : σ[v]? = some (some (.ref a))) (ha : H a = some (.lst (ts.map V.str))) (ab : a ≠ b) (e : cutV (ts.map V.str) lo hi = us.map V.str) (rl : ∀ G Q, Q lo G → tl σ G Q) (rh : ∀ G Q, Q hi G → th σ G Q) :
    RBF b c σ H 0 (tSl (rSlL K) (tVar v) tl th) (fun x => x = us) := fun m H' Q s B l q => by
  refine ⟨_, hv, rl _ _ (rh _ _ ⟨a, _, rfl, SqL.of (s _ _ ha ab), fun p np => ?_⟩)⟩
  rw [e]
  exact q p us _ rfl (but_same (Same.new np)) (BagAt.keep B (Same.new np)) upd_same np
theorem rbf_eq {x : List Str} (h : RBF b c σ H k1 t (fun y => y = x)) {z : List Str} (g : RBL b c σ H k2 u (fun y => y = z)) (hn : x.length + z.length ≤ 900) : RBF b c σ H (k1 + k2) (tOp rCat t u) (fun y => y = x ++ z) :=
  (rbf_cat h.l g (fun ts us e1 e2 => by subst e1 e2; exact hn)).mono fun y ⟨p, q, e1, e2, e3⟩ => by subst e1 e2; exact e3
theorem rb_told (h : RBL b c σ H k t PA) {n : Nat} (hT : ∀ ts, PA ts → TextOk ts ∧ toldN ts = n) : RBX b c σ H k (tCall (spTold K) [] E0 (tCons t tNil)) (.int (n : Nat)) := fun m H' Q s B l q => by
  refine h m H' _ s B l fun a ts G p sG BG g => ?_
  obtain ⟨T, e⟩ := hT ts p
  refine ⟨a, ts, rfl, g, T, fun G2 s2 => ?_⟩
  rw [e]
  exact q _ G2 rfl (sG.trans (but_same s2)) (BagAt.keep BG s2)
theorem set_rb {P : V → Prop} {i : Nat} {tb : TS} {D : Ends} {m : Nat} (h : RB b c σ H k t P) (B : BagAt c H b m) (l : m + k ≤ 90000) (q : ∀ x G, P x → But b H G → BagAt c G b (m + k) → tb D (σ.set i (some x)) G) : tSeq (tAsg t (gName i)) tb D σ H := h m H _ (But.refl b H) B l q
theorem set_rbl {i : Nat} {tb : TS} {D : Ends} {m : Nat} (h : RBL b c σ H k t PA) (B : BagAt c H b m) (l : m + k ≤ 90000) (q : ∀ a ts G, PA ts → But b H G → BagAt c G b (m + k) → G a = some (.lst (ts.map V.str)) → tb D (σ.set i (some (.ref a))) G) : tSeq (tAsg t (gName i)) tb D σ H := h m H _ (But.refl b H) B l q
theorem ifS_rb {v : Bool} {A C : TS} {D : Ends} {m : Nat} (h : RBT b c σ H k tt v) (B : BagAt c H b m) (l : m + k ≤ 90000) (yes : v = true → ∀ G, But b H G → BagAt c G b (m + k) → A D σ G) (no : v = false → ∀ G, But b H G → BagAt c G b (m + k) → C D σ G) : tIfS tt A C D σ H := by
  refine h m H _ (But.refl b H) B l fun G sG BG => ?_
  cases v with
  | true =>
    refine ifT3 rfl ?_
    exact yes rfl G sG BG
  | false =>
    refine ifF3 rfl ?_
    exact no rfl G sG BG
end
end K14

set_option Elab.async false
set_option linter.all false
set_option maxRecDepth 100000
set_option maxHeartbeats 16000000
/-! k14, the law: a spot -/
namespace K14
open PySem L2 K14D
abbrev sSpot : Stmt := top 79
def spSpot : Sp := fun vs H Q _ => ∃ (b c A L : Addr) (m p : Nat) (us : List V) (rows : List (Str × Nat)), vs = [.ref b, .ref A, .ref L, .int (p : Nat)] ∧ BagAt c H b m ∧ m + 10 ≤ 90000 ∧ H A = some (.lst us) ∧ RowsAt H us rows ∧ H L = some (.lst ((rows.map (·.1)).map V.str)) ∧ OkR rows [] [] ∧ rows.length ≤ 30 ∧ p ≤ rows.length ∧
  ∀ G, But b H G → BagAt c G b (m + 10) → Q (.bl true) G
abbrev nmSpot : List Str := ["_law_bag_here", "_law_told_here", "_law_lines_here", "_law_place", "_law_deep", "_law_more", "_law_bad_here", "_law_due"]
theorem scSpot : FnScope nmSpot ["_law_bag_here", "_law_told_here", "_law_lines_here", "_law_place"] (defScope sSpot) := ⟨rfl, rfl, rfl, by decide +kernel, rfl, by decide +kernel, by decide +kernel⟩
theorem RowsAt.get {H : Hp} : ∀ {vs : List V} {r : List (Str × Nat)} {p : Nat} {x : Str} {d : Nat}, RowsAt H vs r → r[p]? = some (x, d) → ∃ a, vs[p]? = some (.ref a) ∧ H a = some (.tup [.str x, .int (d : Nat)])
  | v :: vs, q :: r, 0, x, d, ⟨⟨a, e, h⟩, _⟩, hp => by
    have hp : q = (x, d) := Option.some.inj hp
    subst hp
    exact ⟨a, by rw [e]; rfl, h⟩
  | v :: vs, q :: r, p + 1, x, d, ⟨_, t⟩, hp => RowsAt.get (vs := vs) (r := r) (p := p) t hp
  | [], [], p, x, d, _, hp => by cases hp
/-! ### what is told at a spot -/
theorem rows_ok {rows : List (Str × Nat)} (h : OkR rows [] []) : ∀ r ∈ rows.map (·.1), (Ln r ∧ r.length ≤ 500) ∧ 2 ≤ r.length := fun r hr => by
  obtain ⟨q, hq, rfl⟩ := List.mem_map.mp hr
  have z := h.all q hq
  have := z.len
  exact ⟨⟨z.ln, by omega⟩, z.two⟩
theorem put_ok {rows : List (Str × Nat)} (h : OkR rows [] []) {a b : List Str} {x : Str} (ha : ∀ r ∈ a, r ∈ rows.map (·.1)) (hb : ∀ r ∈ b, r ∈ rows.map (·.1)) (hx : Ln x ∧ x.length ≤ 500) : ∀ r ∈ a ++ x :: b, Ln r ∧ r.length ≤ 500 := fun r hr => by
  rcases List.mem_append.mp hr with hr | hr
  · exact (rows_ok h r (ha r hr)).1
  · rcases List.mem_cons.mp hr with hr | hr
    · rw [hr]; exact hx
    · exact (rows_ok h r (hb r hr)).1
theorem quit_ln : Ln "Quit" ∧ ("Quit" : Str).length ≤ 500 ∧ 1 ≤ ("Quit" : Str).length := by
  have k : (∀ c ∈ TL.tl ("Quit" : Str), c < 128 ∧ c ≠ 10) ∧ ("Quit" : Str).length ≤ 500 ∧ 1 ≤ ("Quit" : Str).length := by decide +kernel
  exact ⟨⟨k.1, by have := k.2.1; omega⟩, k.2⟩
theorem spot_bad {rows : List (Str × Nat)} (h : OkR rows [] []) (hn : rows.length ≤ 30) {p : Nat} (hp : p ≤ rows.length) {x : Str} (hx : BadP x) :
    TextOk (((rows.map (·.1)).take p ++ x :: (rows.map (·.1)).drop p) ++ [("Quit" : Str)]) ∧ toldN (((rows.map (·.1)).take p ++ x :: (rows.map (·.1)).drop p) ++ [("Quit" : Str)]) = p + 1 := by
  obtain ⟨q1, q2, q3⟩ := quit_ln
  have hl := hx.len
  have ok1 := put_ok h (a := (rows.map (·.1)).take p) (b := (rows.map (·.1)).drop p) (fun r hr => List.take_subset _ _ hr) (fun r hr => List.drop_subset _ _ hr) ⟨hx.ln, by omega⟩
  have ok : ∀ r ∈ ((rows.map (·.1)).take p ++ x :: (rows.map (·.1)).drop p) ++ [("Quit" : Str)], Ln r ∧ r.length ≤ 500 := fun r hr => by
    rcases List.mem_append.mp hr with hr | hr
    · exact ok1 r hr
    · rw [List.mem_singleton.mp hr]; exact ⟨q1, q2⟩
  refine ⟨text_ok ok ?_ ⟨"Quit", List.mem_append_right _ (List.mem_singleton.mpr rfl), q3⟩, ?_⟩
  · simp only [List.length_append, List.length_cons, List.length_take, List.length_drop, List.length_map, List.length_nil]
    omega
  · obtain ⟨np, r1, _⟩ := spot_nest h p
    rw [List.append_assoc, List.cons_append] at ok ⊢
    rw [told_bad (fun r hr => (ok r hr).1) r1 (step_bad hx.no hx.nend hx.nels), List.length_take, List.length_map, Nat.min_eq_left hp]
theorem spot_end {rows : List (Str × Nat)} (h : OkR rows [] []) (hn : rows.length ≤ 30) {p : Nat} (hp : p ≤ rows.length) (hd : deepN rows p = 0) {x : Str} (hx : x = "end" ∨ x = "else") :
    TextOk ((rows.map (·.1)).take p ++ x :: (rows.map (·.1)).drop p) ∧ toldN ((rows.map (·.1)).take p ++ x :: (rows.map (·.1)).drop p) = p + 1 := by
  have dx : DrP x ∧ stepN x [] = none := by
    rcases hx with rfl | rfl
    · exact ⟨ends_ln.1, none_open.1⟩
    · exact ⟨ends_ln.2, none_open.2⟩
  obtain ⟨dx, sx⟩ := dx
  have hl := dx.len
  have h2 := dx.two
  have ok := put_ok h (a := (rows.map (·.1)).take p) (b := (rows.map (·.1)).drop p) (fun r hr => List.take_subset _ _ hr) (fun r hr => List.drop_subset _ _ hr) ⟨dx.ln, by omega⟩
  refine ⟨text_ok ok ?_ ⟨x, List.mem_append_right _ (List.mem_cons_self ..), by omega⟩, ?_⟩
  · simp only [List.length_append, List.length_cons, List.length_take, List.length_drop, List.length_map, List.length_nil]
    omega
  · obtain ⟨np, r1, r2⟩ := spot_nest h p
    have e : np = [] := List.length_eq_zero_iff.mp (by rw [r2, hd])
    rw [e] at r1
    rw [told_bad (fun r hr => (ok r hr).1) r1 sx, List.length_take, List.length_map, Nat.min_eq_left hp]
theorem spot_cut {rows : List (Str × Nat)} (h : OkR rows [] []) (hn : rows.length ≤ 30) {p : Nat} (hp : p ≤ rows.length) (hd : 0 < deepN rows p) :
    TextOk ((rows.map (·.1)).take p) ∧ toldN ((rows.map (·.1)).take p) = p + 1 := by
  have ok : ∀ r ∈ (rows.map (·.1)).take p, (Ln r ∧ r.length ≤ 500) ∧ 2 ≤ r.length := fun r hr => rows_ok h r (List.take_subset _ _ hr)
  obtain ⟨np, r1, r2⟩ := spot_nest h p
  have ne : np ≠ [] := fun z => by rw [z] at r2; rw [← r2] at hd; cases hd
  have lp : ((rows.map (·.1)).take p).length = p := by rw [List.length_take, List.length_map, Nat.min_eq_left hp]
  refine ⟨text_ok (fun r hr => (ok r hr).1) (by rw [lp]; omega) ?_, by rw [told_cut (fun r hr => (ok r hr).1.1) r1 ne, lp]⟩
  cases e : (rows.map (·.1)).take p with
  | nil =>
    rw [e] at r1
    cases r1
    exact absurd rfl ne
  | cons r t =>
    have z := (ok r (by rw [e]; exact List.mem_cons_self ..)).2
    exact ⟨r, List.mem_cons_self .., by omega⟩
theorem spot_put {rows : List (Str × Nat)} (h : OkR rows [] []) (hn : rows.length ≤ 30) {p : Nat} (hp : p ≤ rows.length) {y : Str} (hy : SpP y) : TextOk ((rows.map (·.1)).take p ++ y :: (rows.map (·.1)).drop (p + 1)) := by
  have hl := hy.len
  have ok := put_ok h (a := (rows.map (·.1)).take p) (b := (rows.map (·.1)).drop (p + 1)) (fun r hr => List.take_subset _ _ hr) (fun r hr => List.drop_subset _ _ hr) ⟨hy.ln, by omega⟩
  refine text_ok ok ?_ ⟨y, List.mem_append_right _ (List.mem_cons_self ..), hy.ne⟩
  simp only [List.length_append, List.length_cons, List.length_take, List.length_drop, List.length_map, List.length_nil]
  omega
/-! ### readers for it -/
section
variable {b c : Addr} {σ : L2.St} {H : Hp} {k k1 k2 : Nat} {t u : TE} {tt ut : TT} {K : PySem.W.Frag} {PA : List Str → Prop}
theorem rbx_if {v : Bool} {x : V} (h : RBT b c σ H k1 tt v) (ha : v = true → RBX b c σ H k2 t x) (hb : v = false → RBX b c σ H k2 u x) : RBX b c σ H (k1 + k2) (tIf tt t u) x := fun m H' Q s B l q => by
  refine h m H' _ s B (by omega) fun G1 s1 B1 => ?_
  cases v with
  | true =>
    refine ifT3 rfl ?_
    exact ha rfl (m + k1) G1 _ (s.trans s1) B1 (by omega) fun y G2 e s2 B2 => q y G2 e (s1.trans s2) (by rw [← Nat.add_assoc]; exact B2)
  | false =>
    refine ifF3 rfl ?_
    exact hb rfl (m + k1) G1 _ (s.trans s1) B1 (by omega) fun y G2 e s2 B2 => q y G2 e (s1.trans s2) (by rw [← Nat.add_assoc]; exact B2)
theorem rbx_tup {v i p q : Nat} {A a : Addr} {xs ys : List V} {z : V} (hv : σ[v]? = some (some (.ref A))) (hA : H A = some (.lst xs)) (Ab : A ≠ b) (hi : σ[i]? = some (some (.int (p : Nat)))) (hx : xs[p]? = some (.ref a)) (ha : H a = some (.tup ys)) (ab : a ≠ b) (hz : ys[q]? = some z) :
    RBX b c σ H 0 (tOp (rIxT K) (tOp (rIxL K) (tVar v) (tVar i)) (tC (.int (q : Nat)))) z := fun m H' Q s B l qq =>
  ⟨_, hv, _, hi, A, _, _, _, rfl, rfl, SqL.of (s _ _ hA Ab), atI_nat hx, a, _, _, _, rfl, rfl, .inl (.inl (s _ _ ha ab)), atI_nat hz, qq _ H' rfl (But.refl b H') B⟩
theorem if_do {v : Bool} {A : TS} {tb : TS} {D : Ends} {m : Nat} (h : RBT b c σ H k tt v) (B : BagAt c H b m) (l : m + k ≤ 90000) (yes : v = true → ∀ G, But b H G → BagAt c G b (m + k) → A { D with nx := tb D } σ G) (no : ∀ G, But b H G → BagAt c G b (m + k) → tb D σ G) : tSeq (tIfS tt A tNext) tb D σ H := by
  refine h m H _ (But.refl b H) B l fun G sG BG => ?_
  cases v with
  | true =>
    refine ifT3 rfl ?_
    exact yes rfl G sG BG
  | false =>
    refine ifF3 rfl ?_
    exact no G sG BG
theorem if_no {v : Bool} {A : TS} {tb : TS} {D : Ends} {m : Nat} (h : RBT b c σ H k tt v) (e : v = false) (B : BagAt c H b m) (l : m + k ≤ 90000) (no : ∀ G, But b H G → BagAt c G b (m + k) → tb D σ G) : tSeq (tIfS tt A tNext) tb D σ H := if_do h B l (fun z => absurd (z.symm.trans e) (by decide)) no
theorem rbx_line {x : Str} {i : Nat} (hv : σ[i]? = some (some (.str x))) (hx : Ln x) : RBX b c σ H 0 (tCall spIsLine [] E0 (tCons (tVar i) tNil)) (.bl (lineB x)) := fun m H' Q s B l q =>
  ⟨_, hv, x, rfl, hx, fun G sG => q _ G rfl (but_same sG) (BagAt.keep B sG)⟩
theorem rb_spoil {x : Str} (hb : σ[0]? = some (some (.ref b))) (h : RBX b c σ H k t (.str x)) (hx : DrP x) : RB b c σ H (k + 5) (tCall spSpoil [] E0 (tCons (tVar 0) (tCons t tNil))) (TxP SpP) := fun m H' Q s B l q => by
  refine ⟨_, hb, ?_⟩
  refine h m H' _ s B (by omega) fun y G e sG BG => ?_
  subst e
  refine ⟨b, c, m + k, x, rfl, BG, by omega, hx, fun z G2 hz s2 B2 => ?_⟩
  exact q _ G2 ⟨z, rfl, hz⟩ (sG.trans s2) (by rw [← Nat.add_assoc]; exact B2)
theorem rbt_val {v : Bool} (h : RBX b c σ H k t (.bl v)) : RBT b c σ H k (tB t) v := fun m H' Q s B l q => h m H' _ s B l fun x G e sG BG => by
  subst e
  exact ⟨_, rfl, q G sG BG⟩
end
abbrev stS (b J L : Addr) (p : Nat) (v4 v5 v6 v7 : Option V) : L2.St := [some (.ref b), some (.ref J), some (.ref L), some (.int (p : Nat)), v4, v5, v6, v7]
section
variable {P : Program} {w : World} {K : PySem.W.Frag} {mg : Str → Option Value} {base : Heap}
abbrev spotSuite : List Stmt := ifBody ((defBody sSpot).getD 3 passS)
theorem ok_spot {f fD fB fS fT fI : Addr} {fd fdD fdB fdS fdT fdI : FuncData} (F : Fun K "_law_spot_right" "_law_spot_right" sSpot f fd) (T : TxtN mg)
    (GD : FnOk P w K mg base CX0 1 fD fdD ["_law_bag_here", "_law_limit"] spDraw) (kD : PySem.W.keepIn K (.ref fD) = true) (bD : Binds K fdD ["_law_bag_here", "_law_limit"] []) (gD : mg "_law_draw" = some (.ref fD))
    (GB : FnOk P w K mg base CX0 2 fB fdB ["_law_bag_here"] (spTx 1 BadP)) (kB : PySem.W.keepIn K (.ref fB) = true) (bB : Binds K fdB ["_law_bag_here"] []) (gB : mg "_law_bad" = some (.ref fB))
    (GS : FnOk P w K mg base CX0 2 fS fdS ["_law_bag_here", "_law_line"] spSpoil) (kS : PySem.W.keepIn K (.ref fS) = true) (bS : Binds K fdS ["_law_bag_here", "_law_line"] []) (gS : mg "_law_spoiled" = some (.ref fS))
    (GT : FnOk P w K mg base CX0 10 fT fdT ["_law_lines_here"] (spTold K)) (kT : PySem.W.keepIn K (.ref fT) = true) (bT : Binds K fdT ["_law_lines_here"] []) (gT : mg "_law_told" = some (.ref fT))
    (GI : FnOk P w K mg base CX0 4 fI fdI ["_law_line"] spIsLine) (kI : PySem.W.keepIn K (.ref fI) = true) (bI : Binds K fdI ["_law_line"] []) (gI : mg "_law_is_line" = some (.ref fI)) :
    FnOk P w K mg base CX0 11 f fd ["_law_bag_here", "_law_told_here", "_law_lines_here", "_law_place"] spSpot := by
  have sc := scSpot
  refine F.ok scSpot (fun vs H Q E h => ?_) (fun cdv A outer s H vs Q E hr h => ?_)
  · obtain ⟨b, c, J, L, m, p, us, rows, rfl, _⟩ := h
    rfl
  · obtain ⟨b, c, J, L, m, p, us, rows, rfl, B, hm, hA, hR, hL, hok, hn, hp, k⟩ := h
    have hr1 : Room 1 _ := hr.mono (by decide)
    have hr2 : Room 2 _ := hr.mono (by decide)
    have hr4 : Room 4 _ := hr.mono (by decide)
    have Lb : L ≠ b := BagAt.nel B hL
    have Jb : J ≠ b := BagAt.nel B hA
    have hll : (rows.map (·.1)).length = rows.length := List.length_map ..
    have lt1 : ∀ n, ((rows.map (·.1)).take n).length ≤ 30 := fun n => by rw [List.length_take, hll]; omega
    have lt2 : ∀ n, ((rows.map (·.1)).drop n).length ≤ 30 := fun n => by rw [List.length_drop, hll]; omega
    obtain ⟨tR, pR, rR⟩ : ∃ tR, PSs (cxOf CX0 P w K mg base nmSpot "_law_spot_right" (defScope sSpot) f cdv A outer s H E).nox ((defBody sSpot).drop 4) tR ∧
        ∀ (G : Hp) (v5 v6 v7 : Option V), But b H G → BagAt c G b (m + 6) → tR { nx := fun _ H' => Q .non H', rt := Q } (stS b J L p (some (.int (deepN rows p : Nat))) v5 v6 v7) G := by
      refine ⟨_, pss_cons (ps_if (PW.pt (pw_and (pt_cmpR op_gt (pv 4) pe_int (nomark _)) (pw_and1 (pt_cmpR op_ne (pe_call GT hr rfl gT kT bT .nil pass0 (pa_cons (pe_slice sl_list (pv 2) po_none (po_some (pv 3))) pa_nil)) (pe_op op_add (pv 3) pe_int) (nomark _))))) (pss_one (ps_ret pe_bl)) pss_nil)
        (pss_cons (ps_set (i := 5) sc.nd rfl (.inl rfl) (pe_op op_cat (pe_op op_cat (pe_slice sl_list (pv 2) po_none (po_some (pv 3))) (pe_lst (pa_cons (pe_ix ix_list (pe_lst (pa_cons pe_str (pa_cons pe_str pa_nil))) (pe_call GD hr1 rfl gD kD bD .nil pass0 (pa_cons (pv 0) (pa_cons pe_int pa_nil))) (fun _ _ => rfl)) pa_nil))) (pe_slice sl_list (pv 2) (po_some (pv 3)) po_none)))
        (pss_one (ps_ret (pe_or (pe_cmpR op_gt (pv 4) pe_int (nomark _)) (pe_one (pe_cmpR op_eq (pe_call GT hr rfl gT kT bT .nil pass0 (pa_cons (pv 5) pa_nil)) (pe_op op_add (pv 3) pe_int) (nomark _))))))), ?_⟩
      intro G v5 v6 v7 sG BG
      have gL := sG _ _ hL Lb
      have gt : RBX b c (stS b J L p (some (.int (deepN rows p : Nat))) v5 v6 v7) G 0 (tOp (rI0 fun i j => V.bl (decide (j < i))) (tVar 4) (tC (.int 0))) (.bl (decide (0 < deepN rows p))) := rbx_gt (k1 := 0) (k2 := 0) (rb_v rfl) (rb_c (.int ((0 : Nat) : Int)))
      have place1 : ∀ (w5 w6 w7 : Option V) (G : Hp), RBX b c (stS b J L p (some (.int (deepN rows p : Nat))) w5 w6 w7) G 0 (tOp (rI0 fun i j => V.int (i + j)) (tVar 3) (tC (.int 1))) (.int ((p + 1 : Nat) : Int)) := fun w5 w6 w7 G => rbx_add (k1 := 0) (k2 := 0) (rb_v rfl) (rb_c (.int ((1 : Nat) : Int)))
      have cutR : RBF b c (stS b J L p (some (.int (deepN rows p : Nat))) v5 v6 v7) G 0 (tSl (rSlL K) (tVar 2) tNoPart (tPart (tVar 3))) (fun x => x = (rows.map (·.1)).take p) := rbl_cut rfl gL Lb (cut_hi _ p) (fun G Q q => q) (fun G Q q => ⟨_, rfl, _, rfl, q⟩)
      have cutD : RBF b c (stS b J L p (some (.int (deepN rows p : Nat))) v5 v6 v7) G 0 (tSl (rSlL K) (tVar 2) (tPart (tVar 3)) tNoPart) (fun x => x = (rows.map (·.1)).drop p) := rbl_cut rfl gL Lb (cut_lo _ p) (fun G Q q => ⟨_, rfl, _, rfl, q⟩) (fun G Q q => q)
      refine if_no (v := decide (0 < deepN rows p) && !decide (p + 1 = p + 1)) (rbt_and (k1 := 0) (k2 := 0) (rbt gt) fun hd => rbt (rbx_nen (k1 := 0) (k2 := 0) (rb_told cutR.l fun ts e => by
        subst e
        exact spot_cut hok hn hp (of_decide_eq_true hd)) (place1 _ _ _ _))) (by rw [decide_eq_true rfl]; exact Bool.and_false _) BG (by omega) fun G1 s1 B1 => ?_
      have gL1 := s1 _ _ gL Lb
      have cutR1 : RBF b c (stS b J L p (some (.int (deepN rows p : Nat))) v5 v6 v7) G1 0 (tSl (rSlL K) (tVar 2) tNoPart (tPart (tVar 3))) (fun x => x = (rows.map (·.1)).take p) := rbl_cut rfl gL1 Lb (cut_hi _ p) (fun G Q q => q) (fun G Q q => ⟨_, rfl, _, rfl, q⟩)
      have cutD1 : RBF b c (stS b J L p (some (.int (deepN rows p : Nat))) v5 v6 v7) G1 0 (tSl (rSlL K) (tVar 2) (tPart (tVar 3)) tNoPart) (fun x => x = (rows.map (·.1)).drop p) := rbl_cut rfl gL1 Lb (cut_lo _ p) (fun G Q q => ⟨_, rfl, _, rfl, q⟩) (fun G Q q => q)
      have mid := rbf_lst (b := b) (c := c) (σ := stS b J L p (some (.int (deepN rows p : Nat))) v5 v6 v7) (H := G1) (ls_cons (k1 := 1) (k2 := 0) (tx_two (K := K) (v := 0) (x := "end") (y := "else") rfl) ls_nil) (fun ts ⟨x, r, e, _, e2⟩ => by subst e e2; exact (show 1 ≤ 900 by decide))
      have more := rbf_cat (rbf_cat cutR1.l mid.l (fun ts us e ⟨x, r, e1, _, e2⟩ => by
        subst e e1 e2
        have := lt1 p
        show _ + 1 ≤ 900
        omega)).l cutD1.l (fun ts us ⟨x, y, e, ⟨z, r, e1, _, e2⟩, e3⟩ e4 => by
        subst e3 e e1 e2 e4
        have := lt1 p
        have := lt2 p
        rw [List.length_append]
        show _ + 1 + _ ≤ 900
        omega)
      refine set_rbl more.l B1 (by omega) fun q5 ts G2 pts s2 B2 g2 => ?_
      obtain ⟨t1, t2, ⟨t3, t4, e3, ⟨x, r, e4, hx, e5⟩, e1⟩, e2, e6⟩ := pts
      subst e6 e2 e1 e3 e4 e5
      change tRet _ _ (stS b J L p (some (.int (deepN rows p : Nat))) (some (.ref q5)) v6 v7) G2
      have fin : RBX b c (stS b J L p (some (.int (deepN rows p : Nat))) (some (.ref q5)) v6 v7) G2 0 (tOrV (tOp (rI0 fun i j => V.bl (decide (j < i))) (tVar 4) (tC (.int 0))) (tOp rEq (tCall (spTold K) [] E0 (tCons (tVar 5) tNil)) (tOp (rI0 fun i j => V.int (i + j)) (tVar 3) (tC (.int 1))))) (.bl true) := fun m' H' Q' s' B' l' q' => by
        refine rbx_gt (k1 := 0) (k2 := 0) (rb_v rfl) (rb_c (.int ((0 : Nat) : Int))) m' H' _ s' B' (by omega) fun y G3 e s3 B3 => ?_
        subst e
        refine ⟨_, rfl, ?_⟩
        by_cases hd : 0 < deepN rows p
        · refine ifT3 (decide_eq_true hd) ?_
          exact q' _ G3 rfl s3 B3
        · refine ifF3 (decide_eq_false hd) ?_
          have z := rbx_eqn (k1 := 0) (k2 := 0) (rb_told (K := K) (rbl_v (b := b) (c := c) (σ := stS b J L p (some (.int (deepN rows p : Nat))) (some (.ref q5)) v6 v7) (H := G2) (i := 5) rfl g2 (BagAt.nel B2 g2)) (n := p + 1) fun us e => by
            subst e
            have z := spot_end hok hn hp (by omega) hx
            rw [List.append_assoc]
            exact z) (place1 _ _ _ G2)
          rw [decide_eq_true rfl] at z
          exact z m' G3 _ (s'.trans s3) B3 (by omega) fun y G4 e s4 B4 => q' y G4 e (s3.trans s4) B4
      refine ret_rb fin B2 (by omega) fun x G3 e s3 B3 => ?_
      subst e
      exact k G3 (sG.trans (s1.trans (s2.trans s3))) (BagAt.mono B3 (by omega))
    refine ⟨_, pss_cons (ps_set (i := 4) sc.nd rfl (.inl rfl) (pe_ifExp (pt_cmpR op_lt (pv 3) (pe_callB call_len_seq (by rfl) T.len PySem.boot_len (pa_cons (pv 2) pa_nil)) (nomark _)) (pe_ix ix_tup (pe_ix ix_list (pv 1) (pv 3) (fun _ _ => rfl)) pe_int (fun _ _ => rfl)) pe_int))
      (pss_cons (ps_set (i := 5) sc.nd rfl (.inl rfl) (pe_op op_cat (pe_op op_cat (pe_slice sl_list (pv 2) po_none (po_some (pv 3))) (pe_lst (pa_cons (pe_call GB hr2 rfl gB kB bB .nil pass0 (pa_cons (pv 0) pa_nil)) pa_nil))) (pe_slice sl_list (pv 2) (po_some (pv 3)) po_none)))
      (pss_cons (ps_if (pt_cmpR op_ne (pe_call GT hr rfl gT kT bT .nil pass0 (pa_cons (pe_op op_cat (pv 5) (pe_lst (pa_cons pe_str pa_nil))) pa_nil)) (pe_op op_add (pv 3) pe_int) (nomark _)) (pss_one (ps_ret pe_bl)) pss_nil)
      (pss_cons (ps_if (PW.pt (pw_and (pt_cmpR op_lt (pv 3) (pe_callB call_len_seq (by rfl) T.len PySem.boot_len (pa_cons (pv 2) pa_nil)) (nomark _)) (pw_and1 (pt_cmpR op_notIn_seq (pe_ix ix_list (pv 2) (pv 3) (fun _ _ => rfl)) (pe_lst (pa_cons pe_str (pa_cons pe_str pa_nil))) (by rfl)))))
        (pss_cons (ps_set (i := 6) sc.nd rfl (.inl rfl) (pe_call GS hr2 rfl gS kS bS .nil pass0 (pa_cons (pv 0) (pa_cons (pe_ix ix_list (pv 2) (pv 3) (fun _ _ => rfl)) pa_nil))))
        (pss_one (ps_if (PW.pt (pw_and (pt_cmpR op_notIn_seq (pv 6) (pe_lst (pa_cons pe_str (pa_cons pe_str pa_nil))) (by rfl)) (pw_and1 (pt_cmpR op_eq (pe_cmpR op_eq (pe_slice sl_str (pv 6) po_none (po_some pe_int)) pe_str (nomark _)) (pe_cmpR op_eq (pe_slice sl_str (pe_ix ix_list (pv 2) (pv 3) (fun _ _ => rfl)) po_none (po_some pe_int)) pe_str (nomark _)) (nomark _)))))
          (pss_cons (ps_set (i := 7) sc.nd rfl (.inl rfl) (pe_ifExp (pt_val (pe_call GI hr4 rfl gI kI bI .nil pass0 (pa_cons (pv 6) pa_nil))) pe_int (pe_op op_add (pv 3) pe_int)))
          (pss_cons (ps_set (i := 5) sc.nd rfl (.inl rfl) (pe_op op_cat (pe_op op_cat (pe_slice sl_list (pv 2) po_none (po_some (pv 3))) (pe_lst (pa_cons (pv 6) pa_nil))) (pe_slice sl_list (pv 2) (po_some (pe_op op_add (pv 3) pe_int)) po_none)))
          (pss_one (ps_if (pt_cmpR op_ne (pe_call GT hr rfl gT kT bT .nil pass0 (pa_cons (pv 5) pa_nil)) (pv 7) (nomark _)) (pss_one (ps_ret pe_bl)) pss_nil)))) pss_nil))) pss_nil)
      pR))), ?_⟩
    have dv : RBX b c (stS b J L p none none none none) H 0 (tIf (tTest (tOp (rI0 fun i j => V.bl (decide (i < j))) (tVar 3) (tCB (rLenS K) (tCons (tVar 2) tNil)))) (tOp (rIxT K) (tOp (rIxL K) (tVar 1) (tVar 3)) (tC (.int 1))) (tC (.int 0))) (.int (deepN rows p : Nat)) := by
      refine rbx_if (k1 := 0) (k2 := 0) (rbt (rbx_lt (k1 := 0) (k2 := 0) (rb_v rfl) (rbx_len (K := K) rfl hL Lb))) (fun e => ?_) (fun e => ?_)
      · have e := of_decide_eq_true e
        rw [List.length_map, hll] at e
        obtain ⟨q, hq⟩ : ∃ q, rows[p]? = some q := ⟨_, List.getElem?_eq_getElem e⟩
        obtain ⟨x, d⟩ := q
        obtain ⟨a, ha, hta⟩ := hR.get hq
        have ab : a ≠ b := fun z => by
          obtain ⟨kvs, eb⟩ := bag_dk B
          rw [z, eb] at hta
          cases hta
        have ed : deepN rows p = d := by unfold deepN; rw [hq]
        rw [ed]
        exact rbx_tup (q := 1) rfl hA Jb rfl ha hta ab rfl
      · have e := of_decide_eq_false e
        rw [List.length_map, hll] at e
        have ed : deepN rows p = 0 := by
          unfold deepN
          rw [List.getElem?_eq_none (by omega)]
        rw [ed]
        exact rb_c _
    refine set_rb dv B (by omega) fun x G1 e s1 B1 => ?_
    subst e
    change tSeq _ _ _ (stS b J L p (some (.int (deepN rows p : Nat))) none none none) G1
    have gL1 := s1 _ _ hL Lb
    have cutR1 : RBF b c (stS b J L p (some (.int (deepN rows p : Nat))) none none none) G1 0 (tSl (rSlL K) (tVar 2) tNoPart (tPart (tVar 3))) (fun x => x = (rows.map (·.1)).take p) := rbl_cut rfl gL1 Lb (cut_hi _ p) (fun G Q q => q) (fun G Q q => ⟨_, rfl, _, rfl, q⟩)
    have cutD1 : RBF b c (stS b J L p (some (.int (deepN rows p : Nat))) none none none) G1 0 (tSl (rSlL K) (tVar 2) (tPart (tVar 3)) tNoPart) (fun x => x = (rows.map (·.1)).drop p) := rbl_cut rfl gL1 Lb (cut_lo _ p) (fun G Q q => ⟨_, rfl, _, rfl, q⟩) (fun G Q q => q)
    have mid := rbf_lst (b := b) (c := c) (σ := stS b J L p (some (.int (deepN rows p : Nat))) none none none) (H := G1) (ls_cons (k1 := 1) (k2 := 0) (rb_tx (i := 0) (k := 1) (p := BadP) rfl) ls_nil) (fun ts ⟨x, r, e, _, e2⟩ => by subst e e2; exact (show 1 ≤ 900 by decide))
    have more := rbf_cat (rbf_cat cutR1.l mid.l (fun ts us e ⟨x, r, e1, _, e2⟩ => by
      subst e e1 e2
      have := lt1 p
      show _ + 1 ≤ 900
      omega)).l cutD1.l (fun ts us ⟨x, y, e, ⟨z, r, e1, _, e2⟩, e3⟩ e4 => by
      subst e3 e e1 e2 e4
      have := lt1 p
      have := lt2 p
      rw [List.length_append]
      show _ + 1 + _ ≤ 900
      omega)
    refine set_rbl more.l B1 (by omega) fun q5 ts G2 pts s2 B2 g2 => ?_
    obtain ⟨t1, t2, ⟨t3, t4, e3, ⟨x, r, e4, hx, e5⟩, e1⟩, e2, e6⟩ := pts
    subst e6 e2 e1 e3 e4 e5
    change tSeq _ _ _ (stS b J L p (some (.int (deepN rows p : Nat))) (some (.ref q5)) none none) G2
    have place1 : ∀ (w5 w6 w7 : Option V) (G : Hp), RBX b c (stS b J L p (some (.int (deepN rows p : Nat))) w5 w6 w7) G 0 (tOp (rI0 fun i j => V.int (i + j)) (tVar 3) (tC (.int 1))) (.int ((p + 1 : Nat) : Int)) := fun w5 w6 w7 G => rbx_add (k1 := 0) (k2 := 0) (rb_v rfl) (rb_c (.int ((1 : Nat) : Int)))
    have quitL := rbf_cat (rbl_v (b := b) (c := c) (σ := stS b J L p (some (.int (deepN rows p : Nat))) (some (.ref q5)) none none) (H := G2) (i := 5) rfl g2 (BagAt.nel B2 g2)) (rbf_lst (ls_cons (k1 := 0) (k2 := 0) (tx_c ("Quit" : Str)) ls_nil) (fun ts ⟨x, r, e, _, e2⟩ => by subst e e2; exact (show 1 ≤ 900 by decide))).l (fun ts us e ⟨x, r, e1, _, e2⟩ => by
      subst e e1 e2
      have := lt1 p
      have := lt2 p
      rw [List.length_append, List.length_append]
      show _ + 1 + _ + 1 ≤ 900
      omega)
    refine if_no (v := !decide (p + 1 = p + 1)) (rbt (rbx_nen (k1 := 0 + 0 + 0) (k2 := 0) (rb_told (K := K) quitL.l fun us ⟨x1, y1, e1, ⟨x2, r, e2, e3, e4⟩, e5⟩ => by
      subst e5 e1 e2 e3 e4
      have z := spot_bad hok hn hp hx
      rw [List.append_assoc (List.take _ _) [_]]
      exact z) (place1 _ _ _ G2))) (by rw [decide_eq_true rfl]; rfl) B2 (by omega) fun G3 s3 B3 => ?_
    have S3 := s1.trans (s2.trans s3)
    have gL3 := S3 _ _ hL Lb
    by_cases hlt : p < rows.length
    case neg =>
      refine if_no (v := decide (p < ((rows.map (·.1)).map V.str).length) && false) (k := 0 + 0) (rbt_and (k1 := 0) (k2 := 0) (rbt (rbx_lt (k1 := 0) (k2 := 0) (rb_v rfl) (rbx_len (K := K) rfl gL3 Lb))) fun e => by
        have e := of_decide_eq_true e
        rw [List.length_map, hll] at e
        exact absurd e hlt) (Bool.and_false _) B3 (by omega) fun G4 s4 B4 => ?_
      exact rR G4 _ _ _ (S3.trans s4) (BagAt.mono B4 (by omega))
    obtain ⟨q, hq⟩ : ∃ q, rows[p]? = some q := ⟨_, List.getElem?_eq_getElem hlt⟩
    obtain ⟨xl, d⟩ := q
    have hxl : ((rows.map (·.1)).map V.str)[p]? = some (.str xl) := by
      rw [List.getElem?_map, List.getElem?_map, hq]
      rfl
    have dxl : DrP xl := hok.all _ (List.mem_of_getElem? hq)
    have ix3 : ∀ (w5 w6 w7 : Option V) (G : Hp), G L = some (.lst ((rows.map (·.1)).map V.str)) → RBX b c (stS b J L p (some (.int (deepN rows p : Nat))) w5 w6 w7) G 0 (tOp (rIxL K) (tVar 2) (tVar 3)) (.str xl) := fun w5 w6 w7 G gL => rbx_ix rfl gL Lb rfl hxl
    refine if_do (v := decide (p < ((rows.map (·.1)).map V.str).length) && !decide (xl = "end" ∨ xl = "else")) (k := 0 + 0) (rbt_and (k1 := 0) (k2 := 0) (rbt (rbx_lt (k1 := 0) (k2 := 0) (rb_v rfl) (rbx_len (K := K) rfl gL3 Lb))) fun e => rbt (rbx_ends (K := K) (ix3 _ _ _ _ gL3))) B3 (by omega) (fun e G4 s4 B4 => ?_) fun G4 s4 B4 => rR G4 _ _ _ (S3.trans s4) (BagAt.mono B4 (by omega))
    have e := (Bool.and_eq_true_iff.mp e).2
    have nx : ¬ (xl = "end" ∨ xl = "else") := of_decide_eq_false (by rw [Bool.not_eq_true'] at e; exact e)
    have S4 := S3.trans s4
    have gL4 := S4 _ _ hL Lb
    refine set_rb (rb_spoil rfl (ix3 _ _ _ _ gL4) dxl) B4 (by omega) fun x6 G5 px s5 B5 => ?_
    obtain ⟨y, rfl, hy⟩ := px
    have S5 := S4.trans s5
    have gL5 := S5 _ _ hL Lb
    change tIfS _ _ _ _ (stS b J L p (some (.int (deepN rows p : Nat))) (some (.ref q5)) (some (.str y)) none) G5
    have yl := hy.len
    have xll := dxl.len
    have rest : ∀ (G : Hp) (v5 v6 v7 : Option V), But b H G → BagAt c G b (m + 1 + 5) → tR { nx := fun _ H' => Q .non H', rt := Q } (stS b J L p (some (.int (deepN rows p : Nat))) v5 v6 v7) G := rR
    refine ifS_rb (v := !decide (y = "end" ∨ y = "else") && decide (if3 y = if3 xl)) (k := 0 + 0) (rbt_and (k1 := 0) (k2 := 0) (rbt (rbx_ends (K := K) (k := 0) (rb_v rfl))) fun _ => rbt (rbx_eqb (k1 := 0) (k2 := 0) (rbx_if3 (k := 0) (rb_v rfl) (by omega)) (rbx_if3 (k := 0) (ix3 _ _ _ _ gL5) (by omega)))) B5 (by omega) (fun e G6 s6 B6 => ?_) fun e G6 s6 B6 => rest G6 _ _ _ (S5.trans s6) (BagAt.mono B6 (by omega))
    obtain ⟨e1, e2⟩ := Bool.and_eq_true_iff.mp e
    have ny : ¬ (y = "end" ∨ y = "else") := of_decide_eq_false (by rw [Bool.not_eq_true'] at e1; exact e1)
    have e3 := of_decide_eq_true e2
    have S6 := S5.trans s6
    have gL6 := S6 _ _ hL Lb
    have due : RBX b c (stS b J L p (some (.int (deepN rows p : Nat))) (some (.ref q5)) (some (.str y)) none) G6 0 (tIf (tB (tCall spIsLine [] E0 (tCons (tVar 6) tNil))) (tC (.int 0)) (tOp (rI0 fun i j => V.int (i + j)) (tVar 3) (tC (.int 1)))) (.int ((if lineB y = true then 0 else p + 1 : Nat) : Int)) := by
      refine rbx_if (k1 := 0) (k2 := 0) (rbt_val (rbx_line rfl hy.ln)) (fun e => ?_) (fun e => ?_)
      · rw [if_pos e]
        exact rb_c _
      · rw [if_neg (by rw [e]; exact Bool.false_ne_true)]
        exact place1 _ _ _ _
    refine set_rb due B6 (by omega) fun x G7 e s7 B7 => ?_
    subst e
    change tSeq _ _ _ (stS b J L p (some (.int (deepN rows p : Nat))) (some (.ref q5)) (some (.str y)) (some (.int ((if lineB y = true then 0 else p + 1 : Nat) : Int)))) G7
    have S7 := S6.trans s7
    have gL7 := S7 _ _ hL Lb
    have cutR7 : RBF b c (stS b J L p (some (.int (deepN rows p : Nat))) (some (.ref q5)) (some (.str y)) (some (.int ((if lineB y = true then 0 else p + 1 : Nat) : Int)))) G7 0 (tSl (rSlL K) (tVar 2) tNoPart (tPart (tVar 3))) (fun x => x = (rows.map (·.1)).take p) := rbl_cut rfl gL7 Lb (cut_hi _ p) (fun G Q q => q) (fun G Q q => ⟨_, rfl, _, rfl, q⟩)
    have cutD7 : RBF b c (stS b J L p (some (.int (deepN rows p : Nat))) (some (.ref q5)) (some (.str y)) (some (.int ((if lineB y = true then 0 else p + 1 : Nat) : Int)))) G7 0 (tSl (rSlL K) (tVar 2) (tPart (tOp (rI0 fun i j => V.int (i + j)) (tVar 3) (tC (.int 1)))) tNoPart) (fun x => x = (rows.map (·.1)).drop (p + 1)) := rbl_cut rfl gL7 Lb (cut_lo _ (p + 1)) (fun G Q q => ⟨_, rfl, _, _, rfl, rfl, _, rfl, q⟩) (fun G Q q => q)
    have mid7 := rbf_lst (b := b) (c := c) (σ := stS b J L p (some (.int (deepN rows p : Nat))) (some (.ref q5)) (some (.str y)) (some (.int ((if lineB y = true then 0 else p + 1 : Nat) : Int)))) (H := G7) (ls_cons (k1 := 0) (k2 := 0) (tx_v (i := 6) (x := y) rfl) ls_nil) (fun ts ⟨x, r, e, _, e2⟩ => by subst e e2; exact (show 1 ≤ 900 by decide))
    have more7 := rbf_cat (rbf_cat cutR7.l mid7.l (fun ts us e ⟨x, r, e1, _, e2⟩ => by
      subst e e1 e2
      have := lt1 p
      show _ + 1 ≤ 900
      omega)).l cutD7.l (fun ts us ⟨x, y, e, ⟨z, r, e1, _, e2⟩, e3⟩ e4 => by
      subst e3 e e1 e2 e4
      have := lt1 p
      have := lt2 (p + 1)
      rw [List.length_append]
      show _ + 1 + _ ≤ 900
      omega)
    refine set_rbl more7.l B7 (by omega) fun q8 ts G8 pts s8 B8 g8 => ?_
    obtain ⟨t1, t2, ⟨t3, t4, f3, ⟨x2, r2, f4, f5, f6⟩, f1⟩, f2, f7⟩ := pts
    subst f7 f2 f1 f3 f4 f5 f6
    change tIfS _ _ _ _ (stS b J L p (some (.int (deepN rows p : Nat))) (some (.ref q8)) (some (.str x2)) (some (.int ((if lineB x2 = true then 0 else p + 1 : Nat) : Int)))) G8
    have tp := told_put hok hq (fun z => nx (.inl z)) (fun z => nx (.inr z)) (fun z => ny (.inl z)) (fun z => ny (.inr z)) hy.ln e3
    have tb : RBT b c (stS b J L p (some (.int (deepN rows p : Nat))) (some (.ref q8)) (some (.str x2)) (some (.int ((if lineB x2 = true then 0 else p + 1 : Nat) : Int)))) G8 0 (tTest (tOp rNe (tCall (spTold K) [] E0 (tCons (tVar 5) tNil)) (tVar 7))) (!decide ((if lineB x2 = true then 0 else p + 1) = (if lineB x2 = true then 0 else p + 1))) := rbt (rbx_nen (k1 := 0) (k2 := 0) (rb_told (K := K) (rbl_v (i := 5) rfl g8 (BagAt.nel B8 g8)) fun us e => by
      subst e
      rw [List.append_assoc]
      exact ⟨spot_put hok hn hp hy, tp⟩) (rb_v rfl))
    refine ifS_rb tb B8 (by omega) (fun e G9 s9 B9 => ?_) fun e G9 s9 B9 => rest G9 _ _ _ (S7.trans (s8.trans s9)) (BagAt.mono B9 (by omega))
    rw [decide_eq_true rfl] at e
    cases e
end
end K14

set_option Elab.async false
set_option linter.all false
set_option maxRecDepth 100000
set_option maxHeartbeats 16000000
/-! k14, the law -/
namespace K14
open PySem L2 K14D
abbrev sLaw : Stmt := top 80
def spLaw (K : PySem.W.Frag) : Sp := fun vs H Q _ => ∃ (a : Addr) (ns : List Int), vs = [.ref a] ∧ SqL K H a (ns.map V.int) ∧ ns.length ≤ 63 ∧ ∀ H', Q (.bl true) H'
def rowD (p : Str × Nat) : PyData := .tuple [.str p.1, .int (p.2 : Nat)]
theorem dpRows {K : PySem.W.Frag} {H : Hp} : ∀ {us : List V} {rows : List (Str × Nat)}, RowsAt H us rows → DpAll K H us (rows.map rowD)
  | [], [], _ => .nil
  | v :: us, p :: r, ⟨⟨a, e, h⟩, t⟩ => by
    rw [e]
    exact .cons (.tup (.inl (.inl h)) (.cons (.str _) (.cons (.int _) .nil))) (dpRows t)
theorem layRows : ∀ {rows : List (Str × Nat)}, (∀ p ∈ rows, PyData.strOk p.1 = true) → PyData.canLayAll0 (rows.map rowD) = true
  | [], _ => rfl
  | p :: r, h => by
    rw [List.map_cons, PyData.canLayAll0, Bool.and_eq_true]
    refine ⟨?_, layRows fun q hq => h q (List.mem_cons_of_mem _ hq)⟩
    have e := h p (List.mem_cons_self ..)
    simp [rowD, PyData.canLay0, PyData.canLayAll0, e]
theorem depRows : ∀ rows : List (Str × Nat), PyData.depthAll (rows.map rowD) ≤ 1
  | [] => Nat.zero_le _
  | p :: r => by
    have ih := depRows r
    rw [List.map_cons]
    simp only [PyData.depthAll, rowD, PyData.depth]
    omega
theorem shapedRows {rows : List (Str × Nat)} (h : ∀ p ∈ rows, PyData.strOk p.1 = true) : SeqAt.shaped (.list (rows.map rowD)) = true := by
  unfold SeqAt.shaped
  have h1 : (PyData.list (rows.map rowD)).canLay0 = true := by
    simp only [PyData.canLay0]
    exact layRows h
  have h2 : (PyData.list (rows.map rowD)).depth ≤ 64 := by
    have := depRows rows
    simp only [PyData.depth]
    omega
  rw [h1, decide_eq_true h2]
  rfl
theorem strOk_ln {x : Str} (h : Ln x) : PyData.strOk x = true := by
  unfold PyData.strOk
  rw [Array.all_eq_true]
  intro i hi
  have := (h.ok _ (Array.getElem_mem_toList hi)).1
  exact decide_eq_true (by omega)
theorem RowsAt.take {H : Hp} : ∀ {us : List V} {rows : List (Str × Nat)} (n : Nat), RowsAt H us rows → RowsAt H (us.take n) (rows.take n)
  | us, rows, 0, _ => by
    rw [List.take_zero, List.take_zero]
    trivial
  | [], [], n + 1, _ => trivial
  | v :: us, p :: r, n + 1, ⟨a, t⟩ => ⟨a, RowsAt.take n t⟩
theorem cutV_hi (us : List V) (n : Nat) : cutV us none (some (n : Int)) = us.take n := by
  unfold cutV
  rw [HT.sIx_nat, HT.sIx_none, Nat.sub_zero, List.drop_zero, ← List.take_eq_take_min]
theorem cutV_last (us : List V) : cutV us none (some (-1)) = us.take (us.length - 1) := by
  unfold cutV HT.sIx
  show (us.drop 0).take ((if (-1 : Int) < 0 then (-1 + (us.length : Int)).toNat else min (-1 : Int).toNat us.length) - 0) = _
  rw [if_pos (by decide), List.drop_zero]
  congr 1
  omega
theorem step_if3 {x : Str} {n n2 : List Str} (h : Ln x) (e : stepN x n = some n2) : if3 x = ifP x := by
  by_cases c : x = "end" ∨ x = "else"
  · obtain ⟨a, b⟩ := if3_short c
    rw [a, b]
  · exact if3_eq h (step_line e (fun z => c (.inl z)) (fun z => c (.inr z))).1
/-- the rows as the law keeps them -/
structure Kept (H : Hp) (A : Addr) (us : List V) (rows : List (Str × Nat)) : Prop where
  at_ : H A = some (.lst us)
  rw : RowsAt H us rows
  ok : ∃ m, OkR rows [] m
  len : rows.length ≤ 30
theorem Kept.keep {H G : Hp} {A : Addr} {us : List V} {rows : List (Str × Nat)} (h : Kept H A us rows) (s : Same H G) : Kept G A us rows := ⟨s _ _ h.at_, h.rw.keep fun a xs e => s _ _ e, h.ok, h.len⟩
theorem Kept.cut {H : Hp} {A B : Addr} {us : List V} {rows : List (Str × Nat)} (h : Kept H A us rows) (n : Nat) (nB : H B = none) : Kept (upd H B (.lst (us.take n))) B (us.take n) (rows.take n) := by
  have s := Same.new (o := .lst (us.take n)) nB
  obtain ⟨m, ok⟩ := h.ok
  have e : rows = rows.take n ++ rows.drop n := (List.take_append_drop n rows).symm
  rw [e] at ok
  obtain ⟨m1, h1, _⟩ := ok.cut
  refine ⟨upd_same, (h.rw.take n).keep fun a xs e => s _ _ e, ⟨m1, h1⟩, ?_⟩
  rw [List.length_take]
  have := h.len
  omega
theorem Kept.first {H : Hp} {B : Addr} {us : List V} {rows : List (Str × Nat)} (RR : RowsAt H us rows) (ok : OkR rows [] []) (nB : H B = none) : Kept (upd H B (.lst (us.take 30))) B (us.take 30) (rows.take 30) := by
  have s := Same.new (o := .lst (us.take 30)) nB
  have e : rows = rows.take 30 ++ rows.drop 30 := (List.take_append_drop 30 rows).symm
  rw [e] at ok
  obtain ⟨m1, h1, _⟩ := ok.cut
  refine ⟨upd_same, (RR.take 30).keep fun a xs e => s _ _ e, ⟨m1, h1⟩, ?_⟩
  rw [List.length_take]
  omega
theorem at_last {us : List V} {v : V} (h : us[us.length - 1]? = some v) : atI us (-1) = some v := by
  have l : 0 < us.length := by
    cases us with
    | nil => cases h
    | cons a r => exact Nat.succ_pos _
  unfold atI ixN
  rw [if_neg (by decide), if_pos (by omega)]
  show us[((-1 : Int) + (us.length : Int)).toNat]? = _
  rw [show ((-1 : Int) + (us.length : Int)).toNat = us.length - 1 by omega]
  exact h
/-- its last row -/
theorem Kept.last {H : Hp} {A : Addr} {us : List V} {rows : List (Str × Nat)} (h : Kept H A us rows) (ne : rows ≠ []) : ∃ a x d m, us[us.length - 1]? = some (.ref a) ∧ H a = some (.tup [.str x, .int (d : Nat)]) ∧ x.length ≤ 1000 ∧ OkR rows [] m ∧ ((d : Int) + (if if3 x = true then 1 else 0) - (if x = "end" then 1 else 0)) = (m.length : Int) := by
  obtain ⟨m, ok⟩ := h.ok
  obtain ⟨r0, ⟨x, d⟩, rfl⟩ : ∃ r0 p, rows = r0 ++ [p] := ⟨rows.dropLast, rows.getLast ne, (List.dropLast_concat_getLast ne).symm⟩
  have hl := h.rw.len
  obtain ⟨a, ha, hta⟩ := h.rw.get (p := r0.length) (x := x) (d := d) (by simp)
  rw [List.length_append, List.length_singleton] at hl
  refine ⟨a, x, d, m, by rw [hl]; exact ha, hta, ?_, ok, ?_⟩
  · have z : x.length ≤ 220 := (ok.all (x, d) (by simp)).len
    omega
  · have z := ok.last
    obtain ⟨k, _, h2⟩ := ok.cut
    obtain ⟨h3, _, n2, h5, _⟩ := h2
    rw [step_if3 h3.ln h5]
    exact z
abbrev nmLaw : List Str := ["_law_script", "_law_bag_here", "_law_told_here", "_law_lines_here", "_law_turn", "_law_line", "_law_deep"]
theorem scLaw : FnScope nmLaw ["_law_script"] (defScope sLaw) := ⟨rfl, rfl, rfl, by decide +kernel, rfl, by decide +kernel, by decide +kernel⟩
section
variable {P : Program} {w : World} {K : PySem.W.Frag} {mg : Str → Option Value} {base : Heap}
theorem ok_law {f fB fD fL fO fT fP : Addr} {fd fdB fdD fdL fdO fdT fdP : FuncData} (F : Fun K "law" "law" sLaw f fd) (T : TxtB mg)
    (GB : FnOk P w K mg base CX0 1 fB fdB ["_law_script"] (spBag K)) (kB : PySem.W.keepIn K (.ref fB) = true) (bB : Binds K fdB ["_law_script"] []) (gB : mg "_law_bag" = some (.ref fB))
    (GD : FnOk P w K mg base CX0 1 fD fdD ["_law_bag_here", "_law_limit"] spDraw) (kD : PySem.W.keepIn K (.ref fD) = true) (bD : Binds K fdD ["_law_bag_here", "_law_limit"] []) (gD : mg "_law_draw" = some (.ref fD))
    (GL : FnOk P w K mg base CX0 8 fL fdL ["_law_bag_here", "_law_deep", "_law_left"] (spDL 3)) (kL : PySem.W.keepIn K (.ref fL) = true) (bL : Binds K fdL ["_law_bag_here", "_law_deep", "_law_left"] []) (gL : mg "_law_lines" = some (.ref fL))
    (GO : FnOk P w K mg base CX0 1 fO fdO ["_law_row"] spOpen) (kO : PySem.W.keepIn K (.ref fO) = true) (bO : Binds K fdO ["_law_row"] []) (gO : mg "_law_open" = some (.ref fO))
    (GT : FnOk P w K mg base CX0 10 fT fdT ["_law_lines_here"] (spTold K)) (kT : PySem.W.keepIn K (.ref fT) = true) (bT : Binds K fdT ["_law_lines_here"] []) (gT : mg "_law_told" = some (.ref fT))
    (GP : FnOk P w K mg base CX0 11 fP fdP ["_law_bag_here", "_law_told_here", "_law_lines_here", "_law_place"] spSpot) (kP : PySem.W.keepIn K (.ref fP) = true) (bP : Binds K fdP ["_law_bag_here", "_law_told_here", "_law_lines_here", "_law_place"] []) (gP : mg "_law_spot_right" = some (.ref fP)) :
    FnOk P w K mg base CX0 12 f fd ["_law_script"] (spLaw K) := by
  have sc := scLaw
  refine F.ok scLaw (fun vs H Q E h => ?_) (fun cdv A outer s H vs Q E hr h => ?_)
  · obtain ⟨a, ns, rfl, _⟩ := h
    rfl
  · obtain ⟨a, ns, rfl, hS, hlen, k⟩ := h
    have hr1 : Room 1 _ := hr.mono (by decide)
    have hr8 : Room 8 _ := hr.mono (by decide)
    have hr10 : Room 10 _ := hr.mono (by decide)
    obtain ⟨tR, pR, rR⟩ : ∃ tR, PSs (cxOf CX0 P w K mg base nmLaw "law" (defScope sLaw) f cdv A outer s H E).nox ((defBody sLaw).drop 3) tR ∧
        ∀ (G : Hp) (b c J : Addr) (us : List V) (rows : List (Str × Nat)), Kept G J us rows → OkR rows [] [] → BagAt c G b 6100 → tR { nx := fun _ H' => Q .non H', rt := Q } [some (.ref a), some (.ref b), some (.ref J), none, none, none, none] G := by
      refine ⟨_, pss_cons (ps_setLc (i := 3) (own := [("_law_line", 5), ("_law_deep", 6)]) (g := gTup K 2 (gCons (gName 5) (gCons (gName 6) gNil))) (te := tVar 5) rfl sc.nd rfl rfl (sw_true rfl rfl rfl (by decide +kernel)) (pi_list (pv 2)) (blkOk_by (own := [("_law_line", 5), ("_law_deep", 6)]) (N := nmLaw) (sc := defScope sLaw) (by decide +kernel)) (fun _ _ _ _ _ => by exact pg_tup rfl (pgs_cons (pg_name (i := 5) sc.nd rfl (Or.inl rfl)) (pgs_cons (pg_name (i := 6) sc.nd rfl (Or.inl rfl)) pgs_nil))) (fun _ _ _ _ _ => pts_nil)
          (fun _ _ _ _ _ => by exact pv 5))
        (pss_cons (ps_if (PW.pt (pw_or (pt_cmpR op_ne (pe_call GT hr10 rfl gT kT bT .nil pass0 (pa_cons (pv 3) pa_nil)) pe_int (nomark _)) (pw_or1 (PW.pt (pw_and (pt_cmpR (op_neD hr.units) (pv 3) (pe_lst pa_nil) (nomark _)) (pw_and1 (pt_cmpR op_ne (pe_call GT hr10 rfl gT kT bT .nil pass0 (pa_cons (pe_op op_cat (pv 3) (pe_lst (pa_cons pe_str pa_nil))) pa_nil)) (pe_op op_add (pe_callB call_len_seq (by rfl) T.len PySem.boot_len (pa_cons (pv 3) pa_nil)) pe_int) (nomark _)))))))) (pss_one (ps_ret pe_bl)) pss_nil)
        (pss_cons (ps_for PassesOwn.never rfl (pi_range1 (by rfl) T.range (pa_cons pe_int pa_nil)) (pg_name (i := 4) sc.nd rfl (Or.inl rfl))
          (pss_one (ps_if (pt_not (pt_val (pe_call GP hr rfl gP kP bP .nil pass0 (pa_cons (pv 1) (pa_cons (pv 2) (pa_cons (pv 3) (pa_cons (pe_call GD hr1 rfl gD kD bD .nil pass0 (pa_cons (pv 1) (pa_cons (pe_op op_add (pe_callB call_len_seq (by rfl) T.len PySem.boot_len (pa_cons (pv 3) pa_nil)) pe_int) pa_nil))) pa_nil))))))) (pss_one (ps_ret pe_bl)) pss_nil)))
        (pss_cons (ps_if (pt_cmpR op_ne (pe_call GT hr10 rfl gT kT bT .nil pass0 (pa_cons (pe_lst (pa_cons pe_str (pa_cons pe_str (pa_cons pe_str (pa_cons pe_str (pa_cons pe_str (pa_cons pe_str (pa_cons pe_str pa_nil)))))))) pa_nil)) pe_int (nomark _)) (pss_one (ps_ret pe_bl)) pss_nil)
        (pss_one (ps_ret (pe_cmpR op_eq (pe_call GT hr10 rfl gT kT bT .nil pass0 (pa_cons (pe_lst (pa_cons pe_str (pa_cons pe_str (pa_cons pe_str (pa_cons pe_str pa_nil))))) pa_nil)) pe_int (nomark _))))))), ?_⟩
      intro G b c J us rows KJ ok B
      have hul := KJ.rw.len
      have hrl := KJ.len
      refine ⟨_, rfl, J, rfl, ⟨_, SqL.of KJ.at_⟩, fun D nD => ?_⟩
      have sD := Same.new (o := .lst []) nD
      refine lc_list (K := K) (a := J) (xs := us) (fun i G2 => Same G G2 ∧ G2 D = some (.lst (((rows.take i).map (·.1)).map V.str))) ⟨sD, upd_same⟩ (fun i G2 _ ⟨s, _⟩ => SqL.of (s _ _ KJ.at_)) ?_ ?_
      · rintro i y G2 hi ⟨s2, g2⟩
        have hlt : i < rows.length := by
          have := (List.getElem?_eq_some_iff.mp hi).1
          omega
        obtain ⟨p, hp⟩ : ∃ p, rows[i]? = some p := ⟨_, List.getElem?_eq_getElem hlt⟩
        obtain ⟨x, d⟩ := p
        obtain ⟨ai, hai, hti⟩ := KJ.rw.get hp
        rw [hi] at hai
        cases hai
        refine ⟨ai, _, rfl, .inl (.inl (s2 _ _ hti)), rfl, _, _, rfl, _, _, rfl, rfl, ?_⟩
        refine ⟨rfl, ?_⟩
        unfold tYes
        dsimp only
        refine ifT3 rfl ?_
        refine ⟨_, rfl, _, g2, small1000 (by rw [List.length_map, List.length_map, List.length_take]; omega), Same.write s2 nD, ?_⟩
        rw [upd_same, take_more hp, List.map_append, List.map_append]
        rfl
      rintro G2 ⟨s2, g2⟩
      rw [List.take_of_length_le (by omega)] at g2
      have KJ2 := KJ.keep s2
      have B2 := BagAt.keep B s2
      refine gname_to (σ2 := [some (.ref a), some (.ref b), some (.ref J), some (.ref D), none, none, none]) rfl ?_
      have Db : D ≠ b := BagAt.nel B2 g2
      have hll : (rows.map (·.1)).length = rows.length := List.length_map ..
      have rok := rows_ok ok
      have t0 : TextOk (rows.map (·.1)) ∧ toldN (rows.map (·.1)) = 0 := by
        refine ⟨?_, told_good (fun r hr => (rok r hr).1.1) ok.run⟩
        cases e : rows.map (·.1) with
        | nil => exact text_nil
        | cons r t =>
          rw [← e]
          have z := (rok r (by rw [e]; exact List.mem_cons_self ..)).2
          exact text_ok (fun r hr => (rok r hr).1) (by omega) ⟨r, by rw [e]; exact List.mem_cons_self .., by omega⟩
      have el : Ln "" ∧ ("" : Str).length ≤ 500 := by
        have k : (∀ c ∈ TL.tl ("" : Str), c < 128 ∧ c ≠ 10) ∧ ("" : Str).length ≤ 500 := by decide +kernel
        exact ⟨⟨k.1, by have := k.2; omega⟩, k.2⟩
      have t1 : rows.map (·.1) ≠ [] → TextOk (rows.map (·.1) ++ [("" : Str)]) ∧ toldN (rows.map (·.1) ++ [("" : Str)]) = rows.length + 1 := fun ne => by
        have all : ∀ r ∈ rows.map (·.1) ++ [("" : Str)], Ln r ∧ r.length ≤ 500 := fun r hr => by
          rcases List.mem_append.mp hr with hr | hr
          · exact (rok r hr).1
          · rw [List.mem_singleton.mp hr]; exact el
        have e0 : ¬ (("" : Str) = "end") ∧ ¬ (("" : Str) = "else") := by decide +kernel
        refine ⟨?_, ?_⟩
        · cases e : rows.map (·.1) with
          | nil => exact absurd e ne
          | cons r t =>
            rw [← e]
            have z := (rok r (by rw [e]; exact List.mem_cons_self ..)).2
            refine text_ok all ?_ ⟨r, by rw [e]; exact List.mem_append_left _ (List.mem_cons_self ..), by omega⟩
            rw [List.length_append, hll, List.length_singleton]
            omega
        · rw [told_bad (fun r hr => (all r hr).1) ok.run (step_bad closed_lines.2.2.1 e0.1 e0.2), hll]
      have first : RBT b c [some (.ref a), some (.ref b), some (.ref J), some (.ref D), none, none, none] G2 0 (tOr (tTest (tOp rNe (tCall (spTold K) [] E0 (tCons (tVar 3) tNil)) (tC (.int 0)))) (tAnd (tTest (tOp (rNeD K) (tVar 3) (tLst tNil))) (tTest (tOp rNe (tCall (spTold K) [] E0 (tCons (tOp rCat (tVar 3) (tLst (tCons (tC (.str "")) tNil))) tNil)) (tOp (rI0 fun i j => V.int (i + j)) (tCB (rLenS K) (tCons (tVar 3) tNil)) (tC (.int 1))))))) false := by
        intro m H' Q' s' B' l' q'
        have z0 := rbt (rbx_nen (k1 := 0) (k2 := 0) (rb_told (K := K) (rbl_v (b := b) (c := c) (σ := [some (.ref a), some (.ref b), some (.ref J), some (.ref D), none, none, none]) (H := G2) (i := 3) rfl g2 Db) (n := 0) fun us e => by subst e; exact t0) (rb_c (.int ((0 : Nat) : Int))))
        refine z0 m H' _ s' B' (by omega) fun G3 s3 B3 => ?_
        refine ifF3 (by rw [decide_eq_true rfl]; rfl) ?_
        have g3 := s3 _ _ (s' _ _ g2 Db) Db
        refine ⟨_, rfl, (by show 0 ≤ sizeLine; decide), fun q nq => ?_⟩
        have sq := Same.new (o := .lst []) nq
        refine ne_ws (b := []) (sq _ _ g3) upd_same (fun w hw => strOk_ln (rok w hw).1.1) (fun w hw => nomatch hw) ?_
        by_cases ne : rows.map (·.1) = []
        · refine ⟨_, rfl, ?_⟩
          refine ifF3 (by rw [decide_eq_true ne]; rfl) ?_
          exact q' _ (s3.trans (but_same sq)) (BagAt.keep B3 sq)
        · refine ⟨_, rfl, ?_⟩
          refine ifT3 (by rw [decide_eq_false ne]; rfl) ?_
          have more := rbf_cat (rbl_v (b := b) (c := c) (σ := [some (.ref a), some (.ref b), some (.ref J), some (.ref D), none, none, none]) (H := G2) (i := 3) rfl g2 Db) (rbf_lst (ls_cons (k1 := 0) (k2 := 0) (tx_c ("" : Str)) ls_nil) (fun ts ⟨x, r, e, _, e2⟩ => by subst e e2; exact (show 1 ≤ 900 by decide))).l (fun ts us e ⟨x, r, e1, _, e2⟩ => by
            subst e e1 e2
            rw [hll]
            show _ + 1 ≤ 900
            omega)
          have z1 := rbt (rbx_nen (k1 := 0 + 0 + 0) (k2 := 0) (rb_told (K := K) more.l (n := rows.length + 1) fun us ⟨x1, y1, e1, ⟨x2, r, e2, e3, e4⟩, e5⟩ => by
            subst e5 e1 e2 e3 e4
            exact t1 ne) (rbx_add (k1 := 0) (k2 := 0) (rbx_len (K := K) (v := 3) rfl g2 Db) (rb_c (.int ((1 : Nat) : Int)))))
          refine z1 m _ _ (But.trans s' (s3.trans (but_same sq))) (BagAt.keep B3 sq) (by omega) fun G4 s4 B4 => ?_
          have ef : (!decide (rows.length + 1 = ((rows.map (·.1)).map V.str).length + 1)) = false := by
            rw [List.length_map, hll, decide_eq_true rfl]
            rfl
          rw [ef]
          exact q' _ (s3.trans ((but_same sq).trans s4)) B4
      refine if_no (c := c) first rfl B2 (by omega) fun G3 s3 B3 => ?_
      have keepB : ∀ {G4 : Hp} {m4 : Nat}, But b G2 G4 → BagAt c G4 b m4 → G4 J = some (.lst us) ∧ RowsAt G4 us rows ∧ G4 D = some (.lst ((rows.map (·.1)).map V.str)) := fun {G4 m4} s4 B4 => by
        have Jb : J ≠ b := BagAt.nel B2 KJ2.at_
        refine ⟨s4 _ _ KJ2.at_ Jb, KJ2.rw.keep fun q xs e => s4 _ _ e fun z => ?_, s4 _ _ g2 Db⟩
        obtain ⟨kvs, eb⟩ := bag_dk B2
        rw [z, eb] at e
        cases e
      refine ⟨5, rfl, by decide, by decide, for_range (lo := 0) (n := 5) (fun i σ G4 => ∃ (v4 : Option V), σ = [some (.ref a), some (.ref b), some (.ref J), some (.ref D), v4, none, none] ∧ But b G2 G4 ∧ BagAt c G4 b (6100 + 11 * i)) ⟨none, rfl, s3, B3⟩ ?_ ?_⟩
      · rintro i σ G4 hi ⟨v4, rfl, s4, B4⟩
        refine gname_to (σ2 := [some (.ref a), some (.ref b), some (.ref J), some (.ref D), some (.int (0 + (i : Int))), none, none]) rfl ?_
        obtain ⟨gJ, gR, gD4⟩ := keepB s4 B4
        refine ⟨_, rfl, _, rfl, _, rfl, _, rfl, _, rfl, D, _, rfl, .inl (SqL.of gD4), _, _, rfl, rfl, b, c, _, 6100 + 11 * i, rfl, B4, by omega, ?_, ?_, fun r G5 r0 r1 B5 s5 => ?_⟩
        · rw [List.length_map, hll]
          omega
        · rw [List.length_map, hll]
          omega
        rw [List.length_map, hll] at r1
        obtain ⟨p, rfl⟩ : ∃ p : Nat, r = p := ⟨r.toNat, by omega⟩
        obtain ⟨gJ5, gR5, gD5⟩ := keepB (s4.trans s5) B5
        refine ⟨b, c, J, D, 6100 + 11 * i + 1, p, us, rows, rfl, B5, by omega, gJ5, gR5, gD5, ok, hrl, by omega, fun G6 s6 B6 => ?_⟩
        refine ⟨_, rfl, ?_⟩
        refine ifF3 rfl ?_
        exact ⟨_, rfl, s4.trans (s5.trans s6), BagAt.mono B6 (by omega)⟩
      · rintro σ G4 ⟨v4, rfl, s4, B4⟩
        refine ⟨(by show 7 ≤ sizeLine; decide), fun q nq => ?_⟩
        have sq := Same.new (o := .lst (txtA.map V.str)) nq
        refine ⟨q, txtA, rfl, by rw [upd_same]; rfl, closed_ok.1.1, fun G5 s5 => ?_⟩
        rw [closed_ok.1.2]
        refine ⟨rfl, _, rfl, ?_⟩
        refine ifF3 (by decide) ?_
        refine ⟨(by show 4 ≤ sizeLine; decide), fun q2 nq2 => ?_⟩
        refine ⟨q2, txtB, rfl, by rw [upd_same]; rfl, closed_ok.2.1, fun G6 s6 => ?_⟩
        rw [closed_ok.2.2]
        refine ⟨rfl, ?_⟩
        rw [show decide (V.int ((3 : Nat) : Int) = V.int 3) = true from decide_eq_true rfl]
        exact k G6
    refine ⟨_, pss_cons (ps_set (i := 1) sc.nd rfl (.inl rfl) (pe_call GB hr1 rfl gB kB bB .nil pass0 (pa_cons (pv 0) pa_nil)))
      (pss_cons (ps_set (i := 2) sc.nd rfl (.inl rfl) (pe_slice sl_list (pe_call GL hr8 rfl gL kL bL .nil pass0 (pa_cons (pv 1) (pa_cons pe_int (pa_cons (pe_listRg rfl (by rfl) T.list (prg_1 (by rfl) T.range pe_int)) pa_nil)))) po_none (po_some pe_int)))
      (pss_cons (ps_while PassesOwn.never (PW.pt (pw_and (pt_cmpR (op_neD hr.units) (pv 2) (pe_lst pa_nil) (nomark _)) (pw_and1 (pt_cmpR op_gt (pe_call GO hr1 rfl gO kO bO .nil pass0 (pa_cons (pe_ix ix_list (pv 2) (pe_un un_neg pe_int) (fun _ _ => rfl)) pa_nil)) pe_int (nomark _)))))
        (pss_one (ps_set (i := 2) sc.nd rfl (.inl rfl) (pe_slice sl_list (pv 2) po_none (po_some (pe_un un_neg pe_int))))))
      pR)), ?_⟩
    refine ⟨_, rfl, a, ns, rfl, hS, hlen, fun b c H1 s1 B1 => ?_⟩
    refine gname_to (σ2 := [some (.ref a), some (.ref b), none, none, none, none, none]) rfl ?_
    refine ⟨_, rfl, 6, rfl, RgOk.of_le (by decide) (by decide) (by decide) (by decide), fun Lp nL => ?_⟩
    obtain ⟨xs, ecs⟩ := bag_cs B1
    have cL : c ≠ Lp := ne_of_none ecs nL
    refine ⟨b, Lp, c, 0, 0, [0, 1, 2, 3, 4, 5], rfl, rfl, BagAt.keep B1 (Same.new nL), cL, by decide, by rw [upd_same]; rfl, by decide, fun R G us rows m' ls' nR gR RR B2 hm fr gL' hc hs ok => ?_⟩
    refine ⟨_, rfl, R, _, rfl, SqL.of gR, fun A0 nA => ?_⟩
    have ec : cutV us none (some 30) = us.take 30 := cutV_hi us 30
    rw [ec]
    have hm' : m' ≤ 6100 := by
      have : ([0, 1, 2, 3, 4, 5] : List Int).length = 6 := rfl
      omega
    have K0 := Kept.first RR (ok [] rfl) nA
    have B3 := BagAt.mono (BagAt.keep B2 (Same.new (o := .lst (us.take 30)) nA)) hm'
    refine gname_to (σ2 := [some (.ref a), some (.ref b), some (.ref A0), none, none, none, none]) rfl ?_
    generalize upd G A0 (.lst (us.take 30)) = G1 at K0 B3 ⊢
    refine ⟨fun n σ G => ∃ (J : Addr) (us : List V) (rows : List (Str × Nat)), σ = [some (.ref a), some (.ref b), some (.ref J), none, none, none, none] ∧ Kept G J us rows ∧ BagAt c G b 6100 ∧ n = rows.length, ⟨_, A0, _, _, rfl, K0, B3, rfl⟩, ?_⟩
    rintro n σ G2 ⟨J, us, rows, rfl, KJ, BJ, rfl⟩
    have hl := KJ.rw.len
    have hso : ∀ p ∈ rows, PyData.strOk p.1 = true := fun p hp => by
      obtain ⟨m, ok⟩ := KJ.ok
      exact strOk_ln (ok.all p hp).ln
    refine ⟨_, rfl, (by show 0 ≤ sizeLine; decide), fun q nq => ?_⟩
    have sq := Same.new (o := .lst []) nq
    have KJ2 := KJ.keep sq
    have BJ2 := BagAt.keep BJ sq
    refine ⟨.list (rows.map rowD), .list [], .lst (SqL.of KJ2.at_) (dpRows KJ2.rw), .lst (SqL.of upd_same) .nil, shapedRows hso, by decide +kernel, ?_⟩
    by_cases ne : rows = []
    · subst ne
      refine ⟨_, rfl, ?_⟩
      refine ifF3 (show (!PyData.eqv (.list []) (.list [])) = false by simp [PyData.eqv, PyData.eqvAll]) ?_
      refine ifF3 rfl ?_
      exact rR _ b c J us [] KJ2 rfl BJ2
    · obtain ⟨la, x, d, m, hu, hta, hxl, okm, eo⟩ := KJ2.last ne
      refine ⟨_, rfl, ?_⟩
      refine ifT3 (show (!PyData.eqv (.list (rows.map rowD)) (.list [])) = true by
        cases rows with
        | nil => exact absurd rfl ne
        | cons p r => simp [PyData.eqv, PyData.eqvAll]) ?_
      refine ⟨_, rfl, _, rfl, J, _, _, _, rfl, rfl, SqL.of KJ2.at_, at_last hu, la, x, d, rfl, hta, hxl, fun G3 s3 => ?_⟩
      rw [eo]
      refine ⟨_, _, rfl, rfl, _, rfl, ?_⟩
      have KJ3 := KJ2.keep s3
      have BJ3 := BagAt.keep BJ2 s3
      by_cases hm0 : m = []
      · subst hm0
        refine ifF3 (decide_eq_false (by show ¬ (0 : Int) < 0; decide)) ?_
        exact rR _ b c J us rows KJ3 okm BJ3
      · have hmp := List.length_pos_iff.mpr hm0
        refine ifT3 (decide_eq_true (by omega)) ?_
        have hpos := List.length_pos_iff.mpr ne
        refine ⟨fun σ G => ∃ (J : Addr) (us : List V) (rows2 : List (Str × Nat)), σ = [some (.ref a), some (.ref b), some (.ref J), none, none, none, none] ∧ Kept G J us rows2 ∧ BagAt c G b 6100 ∧ rows2.length < rows.length, fun σ' H' ⟨J2, us2, rows2, e1, e2, e3, e4⟩ => ⟨_, e4, J2, us2, rows2, e1, e2, e3, rfl⟩, ?_⟩
        refine ⟨_, rfl, _, rfl, _, rfl, J, _, rfl, SqL.of KJ3.at_, fun A2 nA2 => ?_⟩
        have ec2 : cutV us none (some (-1)) = us.take (us.length - 1) := cutV_last us
        rw [show (-(1 : Int)) = -1 from rfl, ec2]
        refine gname_to (σ2 := [some (.ref a), some (.ref b), some (.ref A2), none, none, none, none]) rfl ?_
        refine ⟨A2, _, rows.take (us.length - 1), rfl, KJ3.cut _ nA2, BagAt.keep BJ3 (Same.new nA2), ?_⟩
        rw [List.length_take]
        omega
end
end K14

set_option Elab.async false
set_option linter.all false
set_option maxRecDepth 100000
namespace K14
open PySem L2
theorem outl_binds {K : PySem.W.Frag} {f : Addr} {fd : FuncData} (F : FunD K "read_outline" "read_outline" (defArgs sOutl) (defBody sOutl) (defScope sOutl) [.non] [] f fd) : ∃ ds, Vals [V.non] ds ∧ Binds K fd ["text", "kind", "step_in", "part_in", "most_lines", "most_ifs", "loop_in"] ds :=
  F.binds1 6 0 (by intro z; cases z) rfl (fun T kV doc pm an cdv ct us its hu hi => match us, its, hu, hi with | [_, _, _, _, _, _], [_], _, _ => ⟨_, rfl, rfl⟩)
theorem outl_fund {K : PySem.W.Frag} {f dT : Addr} {oc : Value} {od an : Option Addr} {osl : Array (Option Value)} {kV doc pm cdv ct : Value} {oT : Obj} {n : Nat} (l : K.lookup f = some ⟨oc, od, .func (PySem.W.fnOf "read_outline" "read_outline" (defArgs sOutl) (defBody sOutl) (defScope sOutl) (.ref dT) kV doc pm an cdv ct), osl⟩)
    (lT : K.lookup dT = some oT) (hT : oT.data = .seq #[.none] n) (c : PySem.W.codeIn K cdv "read_outline" = true) (k : PySem.W.keepIn K (.ref f) = true) :
    FunD K "read_outline" "read_outline" (defArgs sOutl) (defBody sOutl) (defScope sOutl) [.non] [] f (PySem.W.fnOf "read_outline" "read_outline" (defArgs sOutl) (defBody sOutl) (defScope sOutl) (.ref dT) kV doc pm an cdv ct) :=
  ⟨⟨oc, od, .ref dT, kV, doc, pm, an, cdv, ct, osl, rfl, l, c, .inr ⟨(by intro z; cases z), dT, oT, [.none], n, rfl, lT, hT, .cons rfl .nil⟩, .inl rfl⟩, k⟩
end K14

set_option Elab.async false
set_option linter.all false
set_option maxRecDepth 100000
set_option maxHeartbeats 8000000
/-! The facts of the text, the end -/
namespace K14
open PySem L2
open K14D (TxtB ok_bag ok_draw)
theorem eb_ref : ErrA.ErrBody PP sRefI "line" [] where
  ex := ⟨_, _, _, _, _, _, _, _, _, _, _, _, _, ⟨fun _ _ _ _ _ => ⟨_, rfl⟩, rfl, rfl, by decide +kernel, rfl, rfl, rfl, by decide +kernel, by decide +kernel, ⟨_, rfl, rfl⟩, by decide +kernel⟩, ErrA.Sets.nil, rfl⟩
  nd := by decide +kernel
  bind := fun _ _ _ _ _ _ _ _ us hl => match us, hl with | [_, _], _ => rfl
  few := by decide
theorem eb_bad : ErrA.ErrBody PP sBadI "line" [] where
  ex := ⟨_, _, _, _, _, _, _, _, _, _, _, _, _, ⟨fun _ _ _ _ _ => ⟨_, rfl⟩, rfl, rfl, by decide +kernel, rfl, rfl, rfl, by decide +kernel, by decide +kernel, ⟨_, rfl, rfl⟩, by decide +kernel⟩, ErrA.Sets.nil, rfl⟩
  nd := by decide +kernel
  bind := fun _ _ _ _ _ _ _ _ us hl => match us, hl with | [_, _], _ => rfl
  few := by decide
theorem eb_many : ErrA.ErrBody PP sManyI "what" ["many", "most"] where
  ex := ⟨_, _, _, _, _, _, _, _, _, _, _, _, _, ⟨fun _ _ _ _ _ => ⟨_, rfl⟩, rfl, rfl, by decide +kernel, rfl, rfl, rfl, by decide +kernel, by decide +kernel, ⟨_, rfl, rfl⟩, by decide +kernel⟩, ErrA.Sets.cons (ErrA.Sets.cons ErrA.Sets.nil), rfl⟩
  nd := by decide +kernel
  bind := fun _ _ _ _ _ _ _ _ us hl => match us, hl with | [_, _, _, _], _ => rfl
  few := by decide
/-- the texts of a constant tuple -/
def strsAt : List Value → Option (List Str)
  | [] => some []
  | .str x _ :: r => (strsAt r).map (x :: ·)
  | _ => none
theorem vals_strs : ∀ {its : List Value} {xs : List Str}, strsAt its = some xs → Vals (xs.map V.str) its
  | [], _, h => by
    cases h
    exact .nil
  | u :: r, xs, h => by
    cases u with
    | str x t =>
      have h' : (strsAt r).map (x :: ·) = some xs := h
      cases e : strsAt r with
      | none => rw [e] at h'; cases h'
      | some ys =>
        rw [e] at h'
        cases h'
        exact .cons ⟨t, rfl⟩ (vals_strs e)
    | _ => cases h
theorem tup_K {K : PySem.W.Frag} {c : Addr} {d : Option Addr} {its : Array Value} {n : Nat} {sl : Array (Option Value)} {xs : List Str} (l : K.lookup c = some ⟨.type "tuple", d, .seq its n, sl⟩) (v : strsAt its.toList = some xs) (hx : xs.length ≤ 1000) : ∀ H : Hp, SqT K H c (xs.map V.str) := fun H => by
  have e := vals_strs v
  have z := e.length
  rw [List.length_map] at z
  have q : its.toList.length = its.size := Array.length_toList
  have hz : its.size ≤ 1000 := by omega
  exact .inr ⟨_, its, n, l, rfl, rfl, Nat.le_trans hz (by decide), e⟩
def flagNames : List Str := ["used", "free"]
theorem flags_at {K : PySem.W.Frag} {c : Addr} {es : Array DictEntry} {n : Nat} {t1 t2 : Tok} {h1 h2 : Int} (l : K.lookup c = some ⟨.type "dict", none, .dict es n, #[]⟩) (h : es.toList = [⟨h1, .str "used" t1, .bool true⟩, ⟨h2, .str "free" t2, .bool false⟩]) : ∀ z : Str, PySem.W.nsIn K c z = some ((flagM z).map Value.bool) := fun z => by
  have b : ∀ (x : Str) (t : Tok), Value.isStr (.str x t) z = decide (x = z) := fun x t => by
    show (x == z) = _
    by_cases e : x = z
    · rw [decide_eq_true e, e]; exact beq_self_eq_true z
    · rw [decide_eq_false e]; exact beq_eq_false_iff_ne.mpr e
  unfold PySem.W.nsIn flagM
  rw [l]
  dsimp only
  rw [h, List.find?_cons, List.find?_cons, b, b]
  by_cases e1 : z = "used"
  · rw [decide_eq_true e1.symm, if_pos e1]
    rfl
  · rw [decide_eq_false (fun q => e1 q.symm), if_neg e1]
    by_cases e2 : z = "free"
    · rw [decide_eq_true e2.symm, if_pos e2]
      rfl
    · rw [decide_eq_false (fun q => e2 q.symm), if_neg e2]
      rfl

section
variable {w : World} {K : PySem.W.Frag} {mg : Str → Option Value} {h : Heap}
theorem all_mk {fa dT29 CO CH CB CR fI cc cda CL fIz ccz cdaz CT fIy ccy cday CE cMO cFL f13 f14 f15 f16 f17 f18 f19 f20 f21 f22 f26 f28 f29 f30 f31 f32 f46 f47 f48 f49 f50 f51 f52 f53 f54 f61 f62 f63 f64 f65 f66 f67 f68 f69 f70 f71 f72 f73 f74 f75 f76 f77 f78 f79 f80 fm0 fm1 fm2 fm3 fm4 fm5 cqC cqE cqK cqR cqP cqN cqL cqM cqX cqW : Addr} {dqC : Option Addr} {itsqC : Array Value} {nqC : Nat} {slqC : Array (Option Value)} {dqE : Option Addr} {itsqE : Array Value} {nqE : Nat} {slqE : Array (Option Value)} {dqK : Option Addr} {itsqK : Array Value} {nqK : Nat} {slqK : Array (Option Value)} {dqR : Option Addr} {itsqR : Array Value} {nqR : Nat} {slqR : Array (Option Value)} {dqP : Option Addr} {itsqP : Array Value} {nqP : Nat} {slqP : Array (Option Value)} {dqN : Option Addr} {itsqN : Array Value} {nqN : Nat} {slqN : Array (Option Value)} {dqL : Option Addr} {itsqL : Array Value} {nqL : Nat} {slqL : Array (Option Value)} {dqM : Option Addr} {itsqM : Array Value} {nqM : Nat} {slqM : Array (Option Value)} {dqX : Option Addr} {itsqX : Array Value} {nqX : Nat} {slqX : Array (Option Value)} {dqW : Option Addr} {itsqW : Array Value} {nqW : Nat} {slqW : Array (Option Value)} {tiF tiT tiP tiL tiI tiU tiV tF1 tF2 : Tok} {hF1 hF2 : Int} {esM esF : Array DictEntry} {nMo nFl : Nat} {ddT : Option Addr} {itD : Array Value} {nD : Nat} {slD : Array (Option Value)} {nm qq : Str} {N : Addr} {bs bm : List Value} {sn : List Str} {sub : List Value} {ab : Bool} {col : Option Bool} {dd : Option Addr} {k0 k1 k2 k3 k5 : Option Value} {cl : Value} {cld : Option Addr} {csl : Array (Option Value)} {ccl : Value} {cdd : Option Addr} {vs : Array Value} {ccs : Array (Option Value)} {file : Str} {tf : Tok} {ocE : Value} {odE : Option Addr} {kVE docE pmE : Value} {anE : Option Addr} {ctE : Value} {oslE : Array (Option Value)} {nmz qqz : Str} {Nz : Addr} {bsz bmz : List Value} {snz : List Str} {subz : List Value} {abz : Bool} {colz : Option Bool} {ddz : Option Addr} {k0z k1z k2z k3z k5z : Option Value} {clz : Value} {cldz : Option Addr} {cslz : Array (Option Value)} {cclz : Value} {cddz : Option Addr} {vsz : Array Value} {ccsz : Array (Option Value)} {filez : Str} {tfz : Tok} {ocEz : Value} {odEz : Option Addr} {kVEz docEz pmEz : Value} {anEz : Option Addr} {ctEz : Value} {oslEz : Array (Option Value)} {nmy qqy : Str} {Ny : Addr} {bsy bmy : List Value} {sny : List Str} {suby : List Value} {aby : Bool} {coly : Option Bool} {ddy : Option Addr} {k0y k1y k2y k3y k5y : Option Value} {cly : Value} {cldy : Option Addr} {csly : Array (Option Value)} {ccly : Value} {cddy : Option Addr} {vsy : Array Value} {ccsy : Array (Option Value)} {filey : Str} {tfy : Tok} {ocEy : Value} {odEy : Option Addr} {kVEy docEy pmEy : Value} {anEy : Option Addr} {ctEy : Value} {oslEy : Array (Option Value)} {oc13 kV13 dc13 pm13 cd13 ct13 : Value} {od13 an13 : Option Addr} {sl13 : Array (Option Value)} {oc14 kV14 dc14 pm14 cd14 ct14 : Value} {od14 an14 : Option Addr} {sl14 : Array (Option Value)} {oc15 kV15 dc15 pm15 cd15 ct15 : Value} {od15 an15 : Option Addr} {sl15 : Array (Option Value)} {oc16 kV16 dc16 pm16 cd16 ct16 : Value} {od16 an16 : Option Addr} {sl16 : Array (Option Value)} {oc17 kV17 dc17 pm17 cd17 ct17 : Value} {od17 an17 : Option Addr} {sl17 : Array (Option Value)} {oc18 kV18 dc18 pm18 cd18 ct18 : Value} {od18 an18 : Option Addr} {sl18 : Array (Option Value)} {oc19 kV19 dc19 pm19 cd19 ct19 : Value} {od19 an19 : Option Addr} {sl19 : Array (Option Value)} {oc20 kV20 dc20 pm20 cd20 ct20 : Value} {od20 an20 : Option Addr} {sl20 : Array (Option Value)} {oc21 kV21 dc21 pm21 cd21 ct21 : Value} {od21 an21 : Option Addr} {sl21 : Array (Option Value)} {oc22 kV22 dc22 pm22 cd22 ct22 : Value} {od22 an22 : Option Addr} {sl22 : Array (Option Value)} {oc26 kV26 dc26 pm26 cd26 ct26 : Value} {od26 an26 : Option Addr} {sl26 : Array (Option Value)} {oc28 kV28 dc28 pm28 cd28 ct28 : Value} {od28 an28 : Option Addr} {sl28 : Array (Option Value)} {oc29 kV29 dc29 pm29 cd29 ct29 : Value} {od29 an29 : Option Addr} {sl29 : Array (Option Value)} {oc30 kV30 dc30 pm30 cd30 ct30 : Value} {od30 an30 : Option Addr} {sl30 : Array (Option Value)} {oc31 kV31 dc31 pm31 cd31 ct31 : Value} {od31 an31 : Option Addr} {sl31 : Array (Option Value)} {oc32 kV32 dc32 pm32 cd32 ct32 : Value} {od32 an32 : Option Addr} {sl32 : Array (Option Value)} {oc46 kV46 dc46 pm46 cd46 ct46 : Value} {od46 an46 : Option Addr} {sl46 : Array (Option Value)} {oc47 kV47 dc47 pm47 cd47 ct47 : Value} {od47 an47 : Option Addr} {sl47 : Array (Option Value)} {oc48 kV48 dc48 pm48 cd48 ct48 : Value} {od48 an48 : Option Addr} {sl48 : Array (Option Value)} {oc49 kV49 dc49 pm49 cd49 ct49 : Value} {od49 an49 : Option Addr} {sl49 : Array (Option Value)} {oc50 kV50 dc50 pm50 cd50 ct50 : Value} {od50 an50 : Option Addr} {sl50 : Array (Option Value)} {oc51 kV51 dc51 pm51 cd51 ct51 : Value} {od51 an51 : Option Addr} {sl51 : Array (Option Value)} {oc52 kV52 dc52 pm52 cd52 ct52 : Value} {od52 an52 : Option Addr} {sl52 : Array (Option Value)} {oc53 kV53 dc53 pm53 cd53 ct53 : Value} {od53 an53 : Option Addr} {sl53 : Array (Option Value)} {oc54 kV54 dc54 pm54 cd54 ct54 : Value} {od54 an54 : Option Addr} {sl54 : Array (Option Value)} {oc61 kV61 dc61 pm61 cd61 ct61 : Value} {od61 an61 : Option Addr} {sl61 : Array (Option Value)} {oc62 kV62 dc62 pm62 cd62 ct62 : Value} {od62 an62 : Option Addr} {sl62 : Array (Option Value)} {oc63 kV63 dc63 pm63 cd63 ct63 : Value} {od63 an63 : Option Addr} {sl63 : Array (Option Value)} {oc64 kV64 dc64 pm64 cd64 ct64 : Value} {od64 an64 : Option Addr} {sl64 : Array (Option Value)} {oc65 kV65 dc65 pm65 cd65 ct65 : Value} {od65 an65 : Option Addr} {sl65 : Array (Option Value)} {oc66 kV66 dc66 pm66 cd66 ct66 : Value} {od66 an66 : Option Addr} {sl66 : Array (Option Value)} {oc67 kV67 dc67 pm67 cd67 ct67 : Value} {od67 an67 : Option Addr} {sl67 : Array (Option Value)} {oc68 kV68 dc68 pm68 cd68 ct68 : Value} {od68 an68 : Option Addr} {sl68 : Array (Option Value)} {oc69 kV69 dc69 pm69 cd69 ct69 : Value} {od69 an69 : Option Addr} {sl69 : Array (Option Value)} {oc70 kV70 dc70 pm70 cd70 ct70 : Value} {od70 an70 : Option Addr} {sl70 : Array (Option Value)} {oc71 kV71 dc71 pm71 cd71 ct71 : Value} {od71 an71 : Option Addr} {sl71 : Array (Option Value)} {oc72 kV72 dc72 pm72 cd72 ct72 : Value} {od72 an72 : Option Addr} {sl72 : Array (Option Value)} {oc73 kV73 dc73 pm73 cd73 ct73 : Value} {od73 an73 : Option Addr} {sl73 : Array (Option Value)} {oc74 kV74 dc74 pm74 cd74 ct74 : Value} {od74 an74 : Option Addr} {sl74 : Array (Option Value)} {oc75 kV75 dc75 pm75 cd75 ct75 : Value} {od75 an75 : Option Addr} {sl75 : Array (Option Value)} {oc76 kV76 dc76 pm76 cd76 ct76 : Value} {od76 an76 : Option Addr} {sl76 : Array (Option Value)} {oc77 kV77 dc77 pm77 cd77 ct77 : Value} {od77 an77 : Option Addr} {sl77 : Array (Option Value)} {oc78 kV78 dc78 pm78 cd78 ct78 : Value} {od78 an78 : Option Addr} {sl78 : Array (Option Value)} {oc79 kV79 dc79 pm79 cd79 ct79 : Value} {od79 an79 : Option Addr} {sl79 : Array (Option Value)} {oc80 kV80 dc80 pm80 cd80 ct80 : Value} {od80 an80 : Option Addr} {sl80 : Array (Option Value)} {ocm0 kVm0 dcm0 pmm0 cdm0 ctm0 : Value} {odm0 anm0 : Option Addr} {slm0 : Array (Option Value)} {ocm1 kVm1 dcm1 pmm1 cdm1 ctm1 : Value} {odm1 anm1 : Option Addr} {slm1 : Array (Option Value)} {ocm2 kVm2 dcm2 pmm2 cdm2 ctm2 : Value} {odm2 anm2 : Option Addr} {slm2 : Array (Option Value)} {ocm3 kVm3 dcm3 pmm3 cdm3 ctm3 : Value} {odm3 anm3 : Option Addr} {slm3 : Array (Option Value)} {ocm4 kVm4 dcm4 pmm4 cdm4 ctm4 : Value} {odm4 anm4 : Option Addr} {slm4 : Array (Option Value)} {ocm5 kVm5 dcm5 pmm5 cdm5 ctm5 : Value} {odm5 anm5 : Option Addr} {slm5 : Array (Option Value)} (X : K.In h) (G : h.Ns mainGlobals mg) (hfa : mg "law" = some (.ref fa))
    (a13 : PySem.W.nsIn K mainGlobals "is_whole" = some (some (.ref f13))) (l13 : K.lookup f13 = some ⟨oc13, od13, .func (PySem.W.fnOf "is_whole" "is_whole" (defArgs (top 13)) (defBody (top 13)) (defScope (top 13)) .none kV13 dc13 pm13 an13 cd13 ct13), sl13⟩) (c13 : PySem.W.codeIn K cd13 "is_whole" = true) (k13 : PySem.W.keepIn K (.ref f13) = true)
    (a14 : PySem.W.nsIn K mainGlobals "is_from" = some (some (.ref f14))) (l14 : K.lookup f14 = some ⟨oc14, od14, .func (PySem.W.fnOf "is_from" "is_from" (defArgs (top 14)) (defBody (top 14)) (defScope (top 14)) .none kV14 dc14 pm14 an14 cd14 ct14), sl14⟩) (c14 : PySem.W.codeIn K cd14 "is_from" = true) (k14 : PySem.W.keepIn K (.ref f14) = true)
    (a15 : PySem.W.nsIn K mainGlobals "is_among" = some (some (.ref f15))) (l15 : K.lookup f15 = some ⟨oc15, od15, .func (PySem.W.fnOf "is_among" "is_among" (defArgs (top 15)) (defBody (top 15)) (defScope (top 15)) .none kV15 dc15 pm15 an15 cd15 ct15), sl15⟩) (c15 : PySem.W.codeIn K cd15 "is_among" = true) (k15 : PySem.W.keepIn K (.ref f15) = true)
    (a16 : PySem.W.nsIn K mainGlobals "lines_of" = some (some (.ref f16))) (l16 : K.lookup f16 = some ⟨oc16, od16, .func (PySem.W.fnOf "lines_of" "lines_of" (defArgs (top 16)) (defBody (top 16)) (defScope (top 16)) .none kV16 dc16 pm16 an16 cd16 ct16), sl16⟩) (c16 : PySem.W.codeIn K cd16 "lines_of" = true) (k16 : PySem.W.keepIn K (.ref f16) = true)
    (a17 : PySem.W.nsIn K mainGlobals "number_in" = some (some (.ref f17))) (l17 : K.lookup f17 = some ⟨oc17, od17, .func (PySem.W.fnOf "number_in" "number_in" (defArgs (top 17)) (defBody (top 17)) (defScope (top 17)) .none kV17 dc17 pm17 an17 cd17 ct17), sl17⟩) (c17 : PySem.W.codeIn K cd17 "number_in" = true) (k17 : PySem.W.keepIn K (.ref f17) = true)
    (a18 : PySem.W.nsIn K mainGlobals "term_in" = some (some (.ref f18))) (l18 : K.lookup f18 = some ⟨oc18, od18, .func (PySem.W.fnOf "term_in" "term_in" (defArgs (top 18)) (defBody (top 18)) (defScope (top 18)) .none kV18 dc18 pm18 an18 cd18 ct18), sl18⟩) (c18 : PySem.W.codeIn K cd18 "term_in" = true) (k18 : PySem.W.keepIn K (.ref f18) = true)
    (a19 : PySem.W.nsIn K mainGlobals "sum_in" = some (some (.ref f19))) (l19 : K.lookup f19 = some ⟨oc19, od19, .func (PySem.W.fnOf "sum_in" "sum_in" (defArgs (top 19)) (defBody (top 19)) (defScope (top 19)) .none kV19 dc19 pm19 an19 cd19 ct19), sl19⟩) (c19 : PySem.W.codeIn K cd19 "sum_in" = true) (k19 : PySem.W.keepIn K (.ref f19) = true)
    (a20 : PySem.W.nsIn K mainGlobals "comparison_in" = some (some (.ref f20))) (l20 : K.lookup f20 = some ⟨oc20, od20, .func (PySem.W.fnOf "comparison_in" "comparison_in" (defArgs (top 20)) (defBody (top 20)) (defScope (top 20)) .none kV20 dc20 pm20 an20 cd20 ct20), sl20⟩) (c20 : PySem.W.codeIn K cd20 "comparison_in" = true) (k20 : PySem.W.keepIn K (.ref f20) = true)
    (a21 : PySem.W.nsIn K mainGlobals "parted" = some (some (.ref f21))) (l21 : K.lookup f21 = some ⟨oc21, od21, .func (PySem.W.fnOf "parted" "parted" (defArgs (top 21)) (defBody (top 21)) (defScope (top 21)) .none kV21 dc21 pm21 an21 cd21 ct21), sl21⟩) (c21 : PySem.W.codeIn K cd21 "parted" = true) (k21 : PySem.W.keepIn K (.ref f21) = true)
    (a22 : PySem.W.nsIn K mainGlobals "test_in" = some (some (.ref f22))) (l22 : K.lookup f22 = some ⟨oc22, od22, .func (PySem.W.fnOf "test_in" "test_in" (defArgs (top 22)) (defBody (top 22)) (defScope (top 22)) .none kV22 dc22 pm22 an22 cd22 ct22), sl22⟩) (c22 : PySem.W.codeIn K cd22 "test_in" = true) (k22 : PySem.W.keepIn K (.ref f22) = true)
    (a26 : PySem.W.nsIn K mainGlobals "targets_of" = some (some (.ref f26))) (l26 : K.lookup f26 = some ⟨oc26, od26, .func (PySem.W.fnOf "targets_of" "targets_of" (defArgs (top 26)) (defBody (top 26)) (defScope (top 26)) .none kV26 dc26 pm26 an26 cd26 ct26), sl26⟩) (c26 : PySem.W.codeIn K cd26 "targets_of" = true) (k26 : PySem.W.keepIn K (.ref f26) = true)
    (a28 : PySem.W.nsIn K mainGlobals "read_line" = some (some (.ref f28))) (l28 : K.lookup f28 = some ⟨oc28, od28, .func (PySem.W.fnOf "read_line" "read_line" (defArgs (top 28)) (defBody (top 28)) (defScope (top 28)) .none kV28 dc28 pm28 an28 cd28 ct28), sl28⟩) (c28 : PySem.W.codeIn K cd28 "read_line" = true) (k28 : PySem.W.keepIn K (.ref f28) = true)
    (a29 : PySem.W.nsIn K mainGlobals "read_outline" = some (some (.ref f29))) (l29 : K.lookup f29 = some ⟨oc29, od29, .func (PySem.W.fnOf "read_outline" "read_outline" (defArgs (top 29)) (defBody (top 29)) (defScope (top 29)) (.ref dT29) kV29 dc29 pm29 an29 cd29 ct29), sl29⟩) (c29 : PySem.W.codeIn K cd29 "read_outline" = true) (k29 : PySem.W.keepIn K (.ref f29) = true)
    (a30 : PySem.W.nsIn K mainGlobals "ways_through" = some (some (.ref f30))) (l30 : K.lookup f30 = some ⟨oc30, od30, .func (PySem.W.fnOf "ways_through" "ways_through" (defArgs (top 30)) (defBody (top 30)) (defScope (top 30)) .none kV30 dc30 pm30 an30 cd30 ct30), sl30⟩) (c30 : PySem.W.codeIn K cd30 "ways_through" = true) (k30 : PySem.W.keepIn K (.ref f30) = true)
    (a31 : PySem.W.nsIn K mainGlobals "line_above" = some (some (.ref f31))) (l31 : K.lookup f31 = some ⟨oc31, od31, .func (PySem.W.fnOf "line_above" "line_above" (defArgs (top 31)) (defBody (top 31)) (defScope (top 31)) .none kV31 dc31 pm31 an31 cd31 ct31), sl31⟩) (c31 : PySem.W.codeIn K cd31 "line_above" = true) (k31 : PySem.W.keepIn K (.ref f31) = true)
    (a32 : PySem.W.nsIn K mainGlobals "refuse_least" = some (some (.ref f32))) (l32 : K.lookup f32 = some ⟨oc32, od32, .func (PySem.W.fnOf "refuse_least" "refuse_least" (defArgs (top 32)) (defBody (top 32)) (defScope (top 32)) .none kV32 dc32 pm32 an32 cd32 ct32), sl32⟩) (c32 : PySem.W.codeIn K cd32 "refuse_least" = true) (k32 : PySem.W.keepIn K (.ref f32) = true)
    (a46 : PySem.W.nsIn K mainGlobals "register_step" = some (some (.ref f46))) (l46 : K.lookup f46 = some ⟨oc46, od46, .func (PySem.W.fnOf "register_step" "register_step" (defArgs (top 46)) (defBody (top 46)) (defScope (top 46)) .none kV46 dc46 pm46 an46 cd46 ct46), sl46⟩) (c46 : PySem.W.codeIn K cd46 "register_step" = true) (k46 : PySem.W.keepIn K (.ref f46) = true)
    (a47 : PySem.W.nsIn K mainGlobals "place_step" = some (some (.ref f47))) (l47 : K.lookup f47 = some ⟨oc47, od47, .func (PySem.W.fnOf "place_step" "place_step" (defArgs (top 47)) (defBody (top 47)) (defScope (top 47)) .none kV47 dc47 pm47 an47 cd47 ct47), sl47⟩) (c47 : PySem.W.codeIn K cd47 "place_step" = true) (k47 : PySem.W.keepIn K (.ref f47) = true)
    (a48 : PySem.W.nsIn K mainGlobals "sized_step" = some (some (.ref f48))) (l48 : K.lookup f48 = some ⟨oc48, od48, .func (PySem.W.fnOf "sized_step" "sized_step" (defArgs (top 48)) (defBody (top 48)) (defScope (top 48)) .none kV48 dc48 pm48 an48 cd48 ct48), sl48⟩) (c48 : PySem.W.codeIn K cd48 "sized_step" = true) (k48 : PySem.W.keepIn K (.ref f48) = true)
    (a49 : PySem.W.nsIn K mainGlobals "flag_step" = some (some (.ref f49))) (l49 : K.lookup f49 = some ⟨oc49, od49, .func (PySem.W.fnOf "flag_step" "flag_step" (defArgs (top 49)) (defBody (top 49)) (defScope (top 49)) .none kV49 dc49 pm49 an49 cd49 ct49), sl49⟩) (c49 : PySem.W.codeIn K cd49 "flag_step" = true) (k49 : PySem.W.keepIn K (.ref f49) = true)
    (a50 : PySem.W.nsIn K mainGlobals "tie_step" = some (some (.ref f50))) (l50 : K.lookup f50 = some ⟨oc50, od50, .func (PySem.W.fnOf "tie_step" "tie_step" (defArgs (top 50)) (defBody (top 50)) (defScope (top 50)) .none kV50 dc50 pm50 an50 cd50 ct50), sl50⟩) (c50 : PySem.W.codeIn K cd50 "tie_step" = true) (k50 : PySem.W.keepIn K (.ref f50) = true)
    (a51 : PySem.W.nsIn K mainGlobals "block_step_in" = some (some (.ref f51))) (l51 : K.lookup f51 = some ⟨oc51, od51, .func (PySem.W.fnOf "block_step_in" "block_step_in" (defArgs (top 51)) (defBody (top 51)) (defScope (top 51)) .none kV51 dc51 pm51 an51 cd51 ct51), sl51⟩) (c51 : PySem.W.codeIn K cd51 "block_step_in" = true) (k51 : PySem.W.keepIn K (.ref f51) = true)
    (a52 : PySem.W.nsIn K mainGlobals "block_part_in" = some (some (.ref f52))) (l52 : K.lookup f52 = some ⟨oc52, od52, .func (PySem.W.fnOf "block_part_in" "block_part_in" (defArgs (top 52)) (defBody (top 52)) (defScope (top 52)) .none kV52 dc52 pm52 an52 cd52 ct52), sl52⟩) (c52 : PySem.W.codeIn K cd52 "block_part_in" = true) (k52 : PySem.W.keepIn K (.ref f52) = true)
    (a53 : PySem.W.nsIn K mainGlobals "marks_of" = some (some (.ref f53))) (l53 : K.lookup f53 = some ⟨oc53, od53, .func (PySem.W.fnOf "marks_of" "marks_of" (defArgs (top 53)) (defBody (top 53)) (defScope (top 53)) .none kV53 dc53 pm53 an53 cd53 ct53), sl53⟩) (c53 : PySem.W.codeIn K cd53 "marks_of" = true) (k53 : PySem.W.keepIn K (.ref f53) = true)
    (a54 : PySem.W.nsIn K mainGlobals "is_foreign" = some (some (.ref f54))) (l54 : K.lookup f54 = some ⟨oc54, od54, .func (PySem.W.fnOf "is_foreign" "is_foreign" (defArgs (top 54)) (defBody (top 54)) (defScope (top 54)) .none kV54 dc54 pm54 an54 cd54 ct54), sl54⟩) (c54 : PySem.W.codeIn K cd54 "is_foreign" = true) (k54 : PySem.W.keepIn K (.ref f54) = true)
    (a61 : PySem.W.nsIn K mainGlobals "_law_bag" = some (some (.ref f61))) (l61 : K.lookup f61 = some ⟨oc61, od61, .func (PySem.W.fnOf "_law_bag" "_law_bag" (defArgs (top 61)) (defBody (top 61)) (defScope (top 61)) .none kV61 dc61 pm61 an61 cd61 ct61), sl61⟩) (c61 : PySem.W.codeIn K cd61 "_law_bag" = true) (k61 : PySem.W.keepIn K (.ref f61) = true)
    (a62 : PySem.W.nsIn K mainGlobals "_law_draw" = some (some (.ref f62))) (l62 : K.lookup f62 = some ⟨oc62, od62, .func (PySem.W.fnOf "_law_draw" "_law_draw" (defArgs (top 62)) (defBody (top 62)) (defScope (top 62)) .none kV62 dc62 pm62 an62 cd62 ct62), sl62⟩) (c62 : PySem.W.codeIn K cd62 "_law_draw" = true) (k62 : PySem.W.keepIn K (.ref f62) = true)
    (a63 : PySem.W.nsIn K mainGlobals "_law_names" = some (some (.ref f63))) (l63 : K.lookup f63 = some ⟨oc63, od63, .func (PySem.W.fnOf "_law_names" "_law_names" (defArgs (top 63)) (defBody (top 63)) (defScope (top 63)) .none kV63 dc63 pm63 an63 cd63 ct63), sl63⟩) (c63 : PySem.W.codeIn K cd63 "_law_names" = true) (k63 : PySem.W.keepIn K (.ref f63) = true)
    (a64 : PySem.W.nsIn K mainGlobals "_law_places" = some (some (.ref f64))) (l64 : K.lookup f64 = some ⟨oc64, od64, .func (PySem.W.fnOf "_law_places" "_law_places" (defArgs (top 64)) (defBody (top 64)) (defScope (top 64)) .none kV64 dc64 pm64 an64 cd64 ct64), sl64⟩) (c64 : PySem.W.codeIn K cd64 "_law_places" = true) (k64 : PySem.W.keepIn K (.ref f64) = true)
    (a65 : PySem.W.nsIn K mainGlobals "_law_number" = some (some (.ref f65))) (l65 : K.lookup f65 = some ⟨oc65, od65, .func (PySem.W.fnOf "_law_number" "_law_number" (defArgs (top 65)) (defBody (top 65)) (defScope (top 65)) .none kV65 dc65 pm65 an65 cd65 ct65), sl65⟩) (c65 : PySem.W.codeIn K cd65 "_law_number" = true) (k65 : PySem.W.keepIn K (.ref f65) = true)
    (a66 : PySem.W.nsIn K mainGlobals "_law_sum" = some (some (.ref f66))) (l66 : K.lookup f66 = some ⟨oc66, od66, .func (PySem.W.fnOf "_law_sum" "_law_sum" (defArgs (top 66)) (defBody (top 66)) (defScope (top 66)) .none kV66 dc66 pm66 an66 cd66 ct66), sl66⟩) (c66 : PySem.W.codeIn K cd66 "_law_sum" = true) (k66 : PySem.W.keepIn K (.ref f66) = true)
    (a67 : PySem.W.nsIn K mainGlobals "_law_test" = some (some (.ref f67))) (l67 : K.lookup f67 = some ⟨oc67, od67, .func (PySem.W.fnOf "_law_test" "_law_test" (defArgs (top 67)) (defBody (top 67)) (defScope (top 67)) .none kV67 dc67 pm67 an67 cd67 ct67), sl67⟩) (c67 : PySem.W.codeIn K cd67 "_law_test" = true) (k67 : PySem.W.keepIn K (.ref f67) = true)
    (a68 : PySem.W.nsIn K mainGlobals "_law_plain" = some (some (.ref f68))) (l68 : K.lookup f68 = some ⟨oc68, od68, .func (PySem.W.fnOf "_law_plain" "_law_plain" (defArgs (top 68)) (defBody (top 68)) (defScope (top 68)) .none kV68 dc68 pm68 an68 cd68 ct68), sl68⟩) (c68 : PySem.W.codeIn K cd68 "_law_plain" = true) (k68 : PySem.W.keepIn K (.ref f68) = true)
    (a69 : PySem.W.nsIn K mainGlobals "_law_lines" = some (some (.ref f69))) (l69 : K.lookup f69 = some ⟨oc69, od69, .func (PySem.W.fnOf "_law_lines" "_law_lines" (defArgs (top 69)) (defBody (top 69)) (defScope (top 69)) .none kV69 dc69 pm69 an69 cd69 ct69), sl69⟩) (c69 : PySem.W.codeIn K cd69 "_law_lines" = true) (k69 : PySem.W.keepIn K (.ref f69) = true)
    (a70 : PySem.W.nsIn K mainGlobals "_law_bad" = some (some (.ref f70))) (l70 : K.lookup f70 = some ⟨oc70, od70, .func (PySem.W.fnOf "_law_bad" "_law_bad" (defArgs (top 70)) (defBody (top 70)) (defScope (top 70)) .none kV70 dc70 pm70 an70 cd70 ct70), sl70⟩) (c70 : PySem.W.codeIn K cd70 "_law_bad" = true) (k70 : PySem.W.keepIn K (.ref f70) = true)
    (a71 : PySem.W.nsIn K mainGlobals "_law_is_number" = some (some (.ref f71))) (l71 : K.lookup f71 = some ⟨oc71, od71, .func (PySem.W.fnOf "_law_is_number" "_law_is_number" (defArgs (top 71)) (defBody (top 71)) (defScope (top 71)) .none kV71 dc71 pm71 an71 cd71 ct71), sl71⟩) (c71 : PySem.W.codeIn K cd71 "_law_is_number" = true) (k71 : PySem.W.keepIn K (.ref f71) = true)
    (a72 : PySem.W.nsIn K mainGlobals "_law_is_sum" = some (some (.ref f72))) (l72 : K.lookup f72 = some ⟨oc72, od72, .func (PySem.W.fnOf "_law_is_sum" "_law_is_sum" (defArgs (top 72)) (defBody (top 72)) (defScope (top 72)) .none kV72 dc72 pm72 an72 cd72 ct72), sl72⟩) (c72 : PySem.W.codeIn K cd72 "_law_is_sum" = true) (k72 : PySem.W.keepIn K (.ref f72) = true)
    (a73 : PySem.W.nsIn K mainGlobals "_law_is_part" = some (some (.ref f73))) (l73 : K.lookup f73 = some ⟨oc73, od73, .func (PySem.W.fnOf "_law_is_part" "_law_is_part" (defArgs (top 73)) (defBody (top 73)) (defScope (top 73)) .none kV73 dc73 pm73 an73 cd73 ct73), sl73⟩) (c73 : PySem.W.codeIn K cd73 "_law_is_part" = true) (k73 : PySem.W.keepIn K (.ref f73) = true)
    (a74 : PySem.W.nsIn K mainGlobals "_law_is_setting" = some (some (.ref f74))) (l74 : K.lookup f74 = some ⟨oc74, od74, .func (PySem.W.fnOf "_law_is_setting" "_law_is_setting" (defArgs (top 74)) (defBody (top 74)) (defScope (top 74)) .none kV74 dc74 pm74 an74 cd74 ct74), sl74⟩) (c74 : PySem.W.codeIn K cd74 "_law_is_setting" = true) (k74 : PySem.W.keepIn K (.ref f74) = true)
    (a75 : PySem.W.nsIn K mainGlobals "_law_is_line" = some (some (.ref f75))) (l75 : K.lookup f75 = some ⟨oc75, od75, .func (PySem.W.fnOf "_law_is_line" "_law_is_line" (defArgs (top 75)) (defBody (top 75)) (defScope (top 75)) .none kV75 dc75 pm75 an75 cd75 ct75), sl75⟩) (c75 : PySem.W.codeIn K cd75 "_law_is_line" = true) (k75 : PySem.W.keepIn K (.ref f75) = true)
    (a76 : PySem.W.nsIn K mainGlobals "_law_spoiled" = some (some (.ref f76))) (l76 : K.lookup f76 = some ⟨oc76, od76, .func (PySem.W.fnOf "_law_spoiled" "_law_spoiled" (defArgs (top 76)) (defBody (top 76)) (defScope (top 76)) .none kV76 dc76 pm76 an76 cd76 ct76), sl76⟩) (c76 : PySem.W.codeIn K cd76 "_law_spoiled" = true) (k76 : PySem.W.keepIn K (.ref f76) = true)
    (a77 : PySem.W.nsIn K mainGlobals "_law_told" = some (some (.ref f77))) (l77 : K.lookup f77 = some ⟨oc77, od77, .func (PySem.W.fnOf "_law_told" "_law_told" (defArgs (top 77)) (defBody (top 77)) (defScope (top 77)) .none kV77 dc77 pm77 an77 cd77 ct77), sl77⟩) (c77 : PySem.W.codeIn K cd77 "_law_told" = true) (k77 : PySem.W.keepIn K (.ref f77) = true)
    (a78 : PySem.W.nsIn K mainGlobals "_law_open" = some (some (.ref f78))) (l78 : K.lookup f78 = some ⟨oc78, od78, .func (PySem.W.fnOf "_law_open" "_law_open" (defArgs (top 78)) (defBody (top 78)) (defScope (top 78)) .none kV78 dc78 pm78 an78 cd78 ct78), sl78⟩) (c78 : PySem.W.codeIn K cd78 "_law_open" = true) (k78 : PySem.W.keepIn K (.ref f78) = true)
    (a79 : PySem.W.nsIn K mainGlobals "_law_spot_right" = some (some (.ref f79))) (l79 : K.lookup f79 = some ⟨oc79, od79, .func (PySem.W.fnOf "_law_spot_right" "_law_spot_right" (defArgs (top 79)) (defBody (top 79)) (defScope (top 79)) .none kV79 dc79 pm79 an79 cd79 ct79), sl79⟩) (c79 : PySem.W.codeIn K cd79 "_law_spot_right" = true) (k79 : PySem.W.keepIn K (.ref f79) = true)
    (a80 : PySem.W.nsIn K mainGlobals "law" = some (some (.ref f80))) (l80 : K.lookup f80 = some ⟨oc80, od80, .func (PySem.W.fnOf "law" "law" (defArgs (top 80)) (defBody (top 80)) (defScope (top 80)) .none kV80 dc80 pm80 an80 cd80 ct80), sl80⟩) (c80 : PySem.W.codeIn K cd80 "law" = true) (k80 : PySem.W.keepIn K (.ref f80) = true)
    (am0 : PySem.W.findIn K (.ref CO) "__init__" = some (some (.ref fm0))) (jm0 : PySem.W.isFn K (.ref fm0) = true) (lm0 : K.lookup fm0 = some ⟨ocm0, odm0, .func (PySem.W.fnOf "__init__" "Outline.__init__" (defArgs (sOI)) (defBody (sOI)) (defScope (sOI)) .none kVm0 dcm0 pmm0 anm0 cdm0 ctm0), slm0⟩) (cm0 : PySem.W.codeIn K cdm0 "Outline.__init__" = true) (km0 : PySem.W.keepIn K (.ref fm0) = true)
    (am1 : PySem.W.findIn K (.ref CO) "step_at" = some (some (.ref fm1))) (jm1 : PySem.W.isFn K (.ref fm1) = true) (lm1 : K.lookup fm1 = some ⟨ocm1, odm1, .func (PySem.W.fnOf "step_at" "Outline.step_at" (defArgs (sStepAt)) (defBody (sStepAt)) (defScope (sStepAt)) .none kVm1 dcm1 pmm1 anm1 cdm1 ctm1), slm1⟩) (cm1 : PySem.W.codeIn K cdm1 "Outline.step_at" = true) (km1 : PySem.W.keepIn K (.ref fm1) = true)
    (am2 : PySem.W.findIn K (.ref CO) "target_at" = some (some (.ref fm2))) (jm2 : PySem.W.isFn K (.ref fm2) = true) (lm2 : K.lookup fm2 = some ⟨ocm2, odm2, .func (PySem.W.fnOf "target_at" "Outline.target_at" (defArgs (sTargetAt)) (defBody (sTargetAt)) (defScope (sTargetAt)) .none kVm2 dcm2 pmm2 anm2 cdm2 ctm2), slm2⟩) (cm2 : PySem.W.codeIn K cdm2 "Outline.target_at" = true) (km2 : PySem.W.keepIn K (.ref fm2) = true)
    (am3 : PySem.W.findIn K (.ref CO) "many_lines" = some (some (.ref fm3))) (jm3 : PySem.W.isFn K (.ref fm3) = true) (lm3 : K.lookup fm3 = some ⟨ocm3, odm3, .func (PySem.W.fnOf "many_lines" "Outline.many_lines" (defArgs (sMany)) (defBody (sMany)) (defScope (sMany)) .none kVm3 dcm3 pmm3 anm3 cdm3 ctm3), slm3⟩) (cm3 : PySem.W.codeIn K cdm3 "Outline.many_lines" = true) (km3 : PySem.W.keepIn K (.ref fm3) = true)
    (am4 : PySem.W.findIn K (.ref CH) "__init__" = some (some (.ref fm4))) (jm4 : PySem.W.isFn K (.ref fm4) = true) (lm4 : K.lookup fm4 = some ⟨ocm4, odm4, .func (PySem.W.fnOf "__init__" "BlockCode.__init__" (defArgs (sBI)) (defBody (sBI)) (defScope (sBI)) .none kVm4 dcm4 pmm4 anm4 cdm4 ctm4), slm4⟩) (cm4 : PySem.W.codeIn K cdm4 "BlockCode.__init__" = true) (km4 : PySem.W.keepIn K (.ref fm4) = true)
    (am5 : PySem.W.findIn K (.ref CB) "__init__" = some (some (.ref fm5))) (jm5 : PySem.W.isFn K (.ref fm5) = true) (lm5 : K.lookup fm5 = some ⟨ocm5, odm5, .func (PySem.W.fnOf "__init__" "BlockRules.__init__" (defArgs (sBR)) (defBody (sBR)) (defScope (sBR)) .none kVm5 dcm5 pmm5 anm5 cdm5 ctm5), slm5⟩) (cm5 : PySem.W.codeIn K cdm5 "BlockRules.__init__" = true) (km5 : PySem.W.keepIn K (.ref fm5) = true)
    (lD : K.lookup dT29 = some ⟨.type "tuple", ddT, .seq itD nD, slD⟩)
    (lDs : (⟨.type "tuple", ddT, .seq itD nD, slD⟩ : Obj).data = .seq #[.none] nD)
    (o_g : PySem.W.nsIn K mainGlobals "Outline" = some (some (.ref CO)))
    (o_pg : PySem.W.plainGet K CO Str.empty = true)
    (o_hd : PySem.W.hasDictIn K CO = true)
    (o_po : PySem.W.plainOver K CO = true)
    (o_sa : PySem.W.findIn K (.ref CO) "__setattr__" = some (some (.builtin "object.__setattr__")))
    (o_mk : PySem.W.makesIn K CO = true)
    (o_kc : PySem.W.keepIn K (.ref CO) = true)
    (o_nrows : PySem.W.findIn K (.ref CO) "rows" = some none)
    (o_nsteps : PySem.W.findIn K (.ref CO) "steps" = some none)
    (o_ntargets : PySem.W.findIn K (.ref CO) "targets" = some none)
    (h_g : PySem.W.nsIn K mainGlobals "BlockCode" = some (some (.ref CH)))
    (h_pg : PySem.W.plainGet K CH Str.empty = true)
    (h_hd : PySem.W.hasDictIn K CH = true)
    (h_po : PySem.W.plainOver K CH = true)
    (h_sa : PySem.W.findIn K (.ref CH) "__setattr__" = some (some (.builtin "object.__setattr__")))
    (h_mk : PySem.W.makesIn K CH = true)
    (h_kc : PySem.W.keepIn K (.ref CH) = true)
    (h_nkind : PySem.W.findIn K (.ref CH) "kind" = some none)
    (h_nrules : PySem.W.findIn K (.ref CH) "rules" = some none)
    (h_ntext : PySem.W.findIn K (.ref CH) "text" = some none)
    (h_noutline : PySem.W.findIn K (.ref CH) "outline" = some none)
    (h_nfindings : PySem.W.findIn K (.ref CH) "findings" = some none)
    (r_g : PySem.W.nsIn K mainGlobals "BlockRules" = some (some (.ref CB)))
    (r_pg : PySem.W.plainGet K CB Str.empty = true)
    (r_hd : PySem.W.hasDictIn K CB = true)
    (r_po : PySem.W.plainOver K CB = true)
    (r_sa : PySem.W.findIn K (.ref CB) "__setattr__" = some (some (.builtin "object.__setattr__")))
    (r_mk : PySem.W.makesIn K CB = true)
    (r_kc : PySem.W.keepIn K (.ref CB) = true)
    (r_nunit : PySem.W.findIn K (.ref CB) "unit" = some none)
    (r_nleast : PySem.W.findIn K (.ref CB) "least" = some none)
    (aqC : PySem.W.nsIn K mainGlobals "COMPARISONS" = some (some (.ref cqC)))
    (lqC : K.lookup cqC = some ⟨.type "tuple", dqC, .seq itsqC nqC, slqC⟩)
    (vqC : strsAt itsqC.toList = some cmps)
    (aqE : PySem.W.nsIn K mainGlobals "ENDERS" = some (some (.ref cqE)))
    (lqE : K.lookup cqE = some ⟨.type "tuple", dqE, .seq itsqE nqE, slqE⟩)
    (vqE : strsAt itsqE.toList = some enders)
    (aqK : PySem.W.nsIn K mainGlobals "BLOCK_KINDS" = some (some (.ref cqK)))
    (lqK : K.lookup cqK = some ⟨.type "tuple", dqK, .seq itsqK nqK, slqK⟩)
    (vqK : strsAt itsqK.toList = some kindsL)
    (aqR : PySem.W.nsIn K mainGlobals "REGISTERS" = some (some (.ref cqR)))
    (lqR : K.lookup cqR = some ⟨.type "tuple", dqR, .seq itsqR nqR, slqR⟩)
    (vqR : strsAt itsqR.toList = some regsL)
    (aqP : PySem.W.nsIn K mainGlobals "PLACES" = some (some (.ref cqP)))
    (lqP : K.lookup cqP = some ⟨.type "tuple", dqP, .seq itsqP nqP, slqP⟩)
    (vqP : strsAt itsqP.toList = some placesL)
    (aqN : PySem.W.nsIn K mainGlobals "KNOWN" = some (some (.ref cqN)))
    (lqN : K.lookup cqN = some ⟨.type "tuple", dqN, .seq itsqN nqN, slqN⟩)
    (vqN : strsAt itsqN.toList = some knownL)
    (aqL : PySem.W.nsIn K mainGlobals "LINKED" = some (some (.ref cqL)))
    (lqL : K.lookup cqL = some ⟨.type "tuple", dqL, .seq itsqL nqL, slqL⟩)
    (vqL : strsAt itsqL.toList = some linkedL)
    (aqM : PySem.W.nsIn K mainGlobals "NAMES" = some (some (.ref cqM)))
    (lqM : K.lookup cqM = some ⟨.type "tuple", dqM, .seq itsqM nqM, slqM⟩)
    (vqM : strsAt itsqM.toList = some namesL)
    (aqX : PySem.W.nsIn K mainGlobals "LINKS" = some (some (.ref cqX)))
    (lqX : K.lookup cqX = some ⟨.type "tuple", dqX, .seq itsqX nqX, slqX⟩)
    (vqX : strsAt itsqX.toList = some linksL)
    (aqW : PySem.W.nsIn K mainGlobals "WRITING" = some (some (.ref cqW)))
    (lqW : K.lookup cqW = some ⟨.type "tuple", dqW, .seq itsqW nqW, slqW⟩)
    (vqW : strsAt itsqW.toList = some writingL)
    (aiF : PySem.W.nsIn K mainGlobals "MOST_FIGURES" = some (some (.int 30 tiF)))
    (aiT : PySem.W.nsIn K mainGlobals "MOST_TERMS" = some (some (.int 4 tiT)))
    (aiP : PySem.W.nsIn K mainGlobals "MOST_PARTS" = some (some (.int 4 tiP)))
    (aiL : PySem.W.nsIn K mainGlobals "MOST_LINES" = some (some (.int 48 tiL)))
    (aiI : PySem.W.nsIn K mainGlobals "MOST_IFS" = some (some (.int 7 tiI)))
    (aiU : PySem.W.nsIn K mainGlobals "MOST_UNIT" = some (some (.int 64 tiU)))
    (aiV : PySem.W.nsIn K mainGlobals "LEAST_LEAST" = some (some (.int 4 tiV)))
    (z0 : PySem.W.nsIn K mainGlobals "isinstance" = some none)
    (z1 : PySem.W.nsIn K mainGlobals "str" = some none)
    (z2 : PySem.W.nsIn K mainGlobals "len" = some none)
    (z3 : PySem.W.nsIn K mainGlobals "int" = some none)
    (z4 : PySem.W.nsIn K mainGlobals "range" = some none)
    (z5 : PySem.W.nsIn K mainGlobals "tuple" = some none)
    (z6 : PySem.W.nsIn K mainGlobals "list" = some none)
    (z7 : PySem.W.nsIn K mainGlobals "enumerate" = some none)
    (z8 : PySem.W.nsIn K mainGlobals "min" = some none)
    (z9 : PySem.W.nsIn K mainGlobals "bool" = some none)
    (z10 : PySem.W.nsIn K mainGlobals "dict" = some none)
    (z11 : PySem.W.nsIn K mainGlobals "set" = some none)
    (aMO : PySem.W.nsIn K mainGlobals "MOST" = some (some (.ref cMO)))
    (lMO : K.lookup cMO = some ⟨.type "dict", none, .dict esM nMo, #[]⟩)
    (wMO : PySem.W.KeysLit w.params esM.toList)
    (eMO : EntAt esM.toList mostL)
    (loMO : (cMO == sysModules) = false)
    (aFL : PySem.W.nsIn K mainGlobals "FLAGS" = some (some (.ref cFL)))
    (lFL : K.lookup cFL = some ⟨.type "dict", none, .dict esF nFl, #[]⟩)
    (wFL : PySem.W.KeysLit w.params esF.toList)
    (loFL : (cFL == sysModules) = false)
    (eFL : esF.toList = [⟨hF1, .str "used" tF1, .bool true⟩, ⟨hF2, .str "free" tF2, .bool false⟩])
    (e_a : PySem.W.nsIn K mainGlobals "Refused" = some (some (.ref CR)))
    (e_xL : K.lookup CR = some (excClassObj nm qq CR N bs bm true sn sub ab col dd k0 k1 k2 k3 k5 "ValueError.__new__"))
    (e_hbm : PySem.HandSPX.refsVE bm = true)
    (e_sa : PySem.W.findIn K (.ref CR) "__setattr__" = some (some (.builtin "object.__setattr__")))
    (e_iC : PySem.W.findIn K (.ref CR) "__init__" = some (some (.ref fI)))
    (e_tI : PySem.W.typeIn K (.ref fI) = some (.type "function"))
    (e_kC : PySem.W.keepIn K (.ref CR) = true)
    (e_exC : PySem.W.subIn K (.ref CR) (.type "BaseException") = some true)
    (e_veC : PySem.W.subIn K (.ref CR) (.type "ValueError") = some true)
    (e_meC : PySem.W.mroIn K CR (.ref CR) = some true)
    (e_tyC : PySem.W.typeIn K (.ref CR) = some (.type "type"))
    (e_sup : PySem.W.ks_superIn K CR CR "__init__" = some (some (.builtin "ValueError.__init__")))
    (e_opq : PySem.W.nsIn K cStatics "thirdparty.any" = some none)
    (e_gS : PySem.W.nsIn K mainGlobals "super" = some none)
    (e_fn : K.lookup fI = some ⟨ocE, odE, .func (PySem.W.ksFn "__init__" "Refused.__init__" (defArgs sRefI) (defBody sRefI) (defScope sRefI) .none kVE docE pmE anE (.ref cda) ctE cc), oslE⟩)
    (e_cell : K.lookup cc = some ⟨cl, cld, .cell (some (.ref CR)), csl⟩)
    (e_code : K.lookup cda = some ⟨ccl, cdd, .fields vs, ccs⟩)
    (e_hvs : vs[2]? = some (.str file tf))
    (e_hfile : ((PP.main.file : Str) == file) = true)
    (e_rc : PySem.W.codeIn K (.ref cda) "Refused.__init__" = true)
    (e_n1 : PySem.W.findIn K (.ref CR) "line" = some none)
    (e_ga : PySem.W.findIn K (.ref CR) "__getattribute__" = some (some (.builtin "BaseException.__getattribute__")))
    (e_gg : PySem.W.findIn K (.ref CR) "__getattr__" = some none)
    (e_hd : PySem.W.hasDictIn K CR = true)
    (e_xm : PySem.W.exmOne K (.ref CR) (.ref CR) = some true)
    (f_a : PySem.W.nsIn K mainGlobals "BadLine" = some (some (.ref CL)))
    (f_xL : K.lookup CL = some (excClassObj nmz qqz CL Nz bsz bmz true snz subz abz colz ddz k0z k1z k2z k3z k5z "ValueError.__new__"))
    (f_hbm : PySem.HandSPX.refsVE bmz = true)
    (f_sa : PySem.W.findIn K (.ref CL) "__setattr__" = some (some (.builtin "object.__setattr__")))
    (f_iC : PySem.W.findIn K (.ref CL) "__init__" = some (some (.ref fIz)))
    (f_tI : PySem.W.typeIn K (.ref fIz) = some (.type "function"))
    (f_kC : PySem.W.keepIn K (.ref CL) = true)
    (f_exC : PySem.W.subIn K (.ref CL) (.type "BaseException") = some true)
    (f_veC : PySem.W.subIn K (.ref CL) (.type "ValueError") = some true)
    (f_meC : PySem.W.mroIn K CL (.ref CL) = some true)
    (f_tyC : PySem.W.typeIn K (.ref CL) = some (.type "type"))
    (f_sup : PySem.W.ks_superIn K CL CL "__init__" = some (some (.builtin "ValueError.__init__")))
    (f_opq : PySem.W.nsIn K cStatics "thirdparty.any" = some none)
    (f_gS : PySem.W.nsIn K mainGlobals "super" = some none)
    (f_fn : K.lookup fIz = some ⟨ocEz, odEz, .func (PySem.W.ksFn "__init__" "BadLine.__init__" (defArgs sBadI) (defBody sBadI) (defScope sBadI) .none kVEz docEz pmEz anEz (.ref cdaz) ctEz ccz), oslEz⟩)
    (f_cell : K.lookup ccz = some ⟨clz, cldz, .cell (some (.ref CL)), cslz⟩)
    (f_code : K.lookup cdaz = some ⟨cclz, cddz, .fields vsz, ccsz⟩)
    (f_hvs : vsz[2]? = some (.str filez tfz))
    (f_hfile : ((PP.main.file : Str) == filez) = true)
    (f_rc : PySem.W.codeIn K (.ref cdaz) "BadLine.__init__" = true)
    (f_n1 : PySem.W.findIn K (.ref CL) "line" = some none)
    (f_ga : PySem.W.findIn K (.ref CL) "__getattribute__" = some (some (.builtin "BaseException.__getattribute__")))
    (f_gg : PySem.W.findIn K (.ref CL) "__getattr__" = some none)
    (f_hd : PySem.W.hasDictIn K CL = true)
    (f_xm : PySem.W.exmOne K (.ref CL) (.ref CL) = some true)
    (g_a : PySem.W.nsIn K mainGlobals "TooMany" = some (some (.ref CT)))
    (g_xL : K.lookup CT = some (excClassObj nmy qqy CT Ny bsy bmy true sny suby aby coly ddy k0y k1y k2y k3y k5y "ValueError.__new__"))
    (g_hbm : PySem.HandSPX.refsVE bmy = true)
    (g_sa : PySem.W.findIn K (.ref CT) "__setattr__" = some (some (.builtin "object.__setattr__")))
    (g_iC : PySem.W.findIn K (.ref CT) "__init__" = some (some (.ref fIy)))
    (g_tI : PySem.W.typeIn K (.ref fIy) = some (.type "function"))
    (g_kC : PySem.W.keepIn K (.ref CT) = true)
    (g_exC : PySem.W.subIn K (.ref CT) (.type "BaseException") = some true)
    (g_veC : PySem.W.subIn K (.ref CT) (.type "ValueError") = some true)
    (g_meC : PySem.W.mroIn K CT (.ref CT) = some true)
    (g_tyC : PySem.W.typeIn K (.ref CT) = some (.type "type"))
    (g_sup : PySem.W.ks_superIn K CT CT "__init__" = some (some (.builtin "ValueError.__init__")))
    (g_opq : PySem.W.nsIn K cStatics "thirdparty.any" = some none)
    (g_gS : PySem.W.nsIn K mainGlobals "super" = some none)
    (g_fn : K.lookup fIy = some ⟨ocEy, odEy, .func (PySem.W.ksFn "__init__" "TooMany.__init__" (defArgs sManyI) (defBody sManyI) (defScope sManyI) .none kVEy docEy pmEy anEy (.ref cday) ctEy ccy), oslEy⟩)
    (g_cell : K.lookup ccy = some ⟨cly, cldy, .cell (some (.ref CT)), csly⟩)
    (g_code : K.lookup cday = some ⟨ccly, cddy, .fields vsy, ccsy⟩)
    (g_hvs : vsy[2]? = some (.str filey tfy))
    (g_hfile : ((PP.main.file : Str) == filey) = true)
    (g_rc : PySem.W.codeIn K (.ref cday) "TooMany.__init__" = true)
    (g_n1 : PySem.W.findIn K (.ref CT) "what" = some none)
    (g_n2 : PySem.W.findIn K (.ref CT) "many" = some none)
    (g_n3 : PySem.W.findIn K (.ref CT) "most" = some none)
    (g_ga : PySem.W.findIn K (.ref CT) "__getattribute__" = some (some (.builtin "BaseException.__getattribute__")))
    (g_gg : PySem.W.findIn K (.ref CT) "__getattr__" = some none)
    (g_hd : PySem.W.hasDictIn K CT = true)
    (g_xm : PySem.W.exmOne K (.ref CT) (.ref CT) = some true)
    (x_o : PySem.W.nsIn K mainGlobals "BlockError" = some (some (.ref CE)))
    (x_FL : PySem.W.exmOne K (.ref CR) (.ref CL) = some false)
    (x_ML : PySem.W.exmOne K (.ref CT) (.ref CL) = some false)
    (x_FO : PySem.W.exmOne K (.ref CR) (.ref CE) = some true)
    (x_MO : PySem.W.exmOne K (.ref CT) (.ref CE) = some true) :
    ∃ fd : FuncData, (∀ (s : Shared) (v : Value), BindsTo s fd ⟨[v], []⟩ [("_law_script", v)]) ∧ ∀ base : Heap, K.In base → base.Ns mainGlobals mg → FnOk PP w K mg base CX0 12 fa fd ["_law_script"] (spLaw K) := by
  have e := hfa.symm.trans (PySem.W.mg_of X G a80)
  cases e
  have F13 := fun_mk (st := top 13) l13 c13 k13
  have g13 := PySem.W.mg_of X G a13
  have b13 := F13.binds (ps := ["value"]) fun _ _ _ _ _ _ us hl => match us, hl with | [_], _ => rfl
  have F14 := fun_mk (st := top 14) l14 c14 k14
  have g14 := PySem.W.mg_of X G a14
  have b14 := F14.binds (ps := ["value", "least"]) fun _ _ _ _ _ _ us hl => match us, hl with | [_, _], _ => rfl
  have F15 := fun_mk (st := top 15) l15 c15 k15
  have g15 := PySem.W.mg_of X G a15
  have b15 := F15.binds (ps := ["value", "words"]) fun _ _ _ _ _ _ us hl => match us, hl with | [_, _], _ => rfl
  have F16 := fun_mk (st := top 16) l16 c16 k16
  have g16 := PySem.W.mg_of X G a16
  have b16 := F16.binds (ps := ["text"]) fun _ _ _ _ _ _ us hl => match us, hl with | [_], _ => rfl
  have F17 := fun_mk (st := top 17) l17 c17 k17
  have g17 := PySem.W.mg_of X G a17
  have b17 := F17.binds (ps := ["word"]) fun _ _ _ _ _ _ us hl => match us, hl with | [_], _ => rfl
  have F18 := fun_mk (st := top 18) l18 c18 k18
  have g18 := PySem.W.mg_of X G a18
  have b18 := F18.binds (ps := ["word", "names"]) fun _ _ _ _ _ _ us hl => match us, hl with | [_, _], _ => rfl
  have F19 := fun_mk (st := top 19) l19 c19 k19
  have g19 := PySem.W.mg_of X G a19
  have b19 := F19.binds (ps := ["words", "names"]) fun _ _ _ _ _ _ us hl => match us, hl with | [_, _], _ => rfl
  have F20 := fun_mk (st := top 20) l20 c20 k20
  have g20 := PySem.W.mg_of X G a20
  have b20 := F20.binds (ps := ["words", "names"]) fun _ _ _ _ _ _ us hl => match us, hl with | [_, _], _ => rfl
  have F21 := fun_mk (st := top 21) l21 c21 k21
  have g21 := PySem.W.mg_of X G a21
  have b21 := F21.binds (ps := ["words"]) fun _ _ _ _ _ _ us hl => match us, hl with | [_], _ => rfl
  have F22 := fun_mk (st := top 22) l22 c22 k22
  have g22 := PySem.W.mg_of X G a22
  have b22 := F22.binds (ps := ["words", "part_in", "kind"]) fun _ _ _ _ _ _ us hl => match us, hl with | [_, _, _], _ => rfl
  have F26 := fun_mk (st := top 26) l26 c26 k26
  have g26 := PySem.W.mg_of X G a26
  have b26 := F26.binds (ps := ["steps"]) fun _ _ _ _ _ _ us hl => match us, hl with | [_], _ => rfl
  have F28 := fun_mk (st := top 28) l28 c28 k28
  have g28 := PySem.W.mg_of X G a28
  have b28 := F28.binds (ps := ["words", "kind", "step_in", "part_in", "loop_in", "nest"]) fun _ _ _ _ _ _ us hl => match us, hl with | [_, _, _, _, _, _], _ => rfl
  have F29 := outl_fund l29 lD lDs c29 k29
  have g29 := PySem.W.mg_of X G a29
  obtain ⟨ds29, r29, b29⟩ := outl_binds F29
  have F30 := fun_mk (st := top 30) l30 c30 k30
  have g30 := PySem.W.mg_of X G a30
  have b30 := F30.binds (ps := ["outline"]) fun _ _ _ _ _ _ us hl => match us, hl with | [_], _ => rfl
  have F31 := fun_mk (st := top 31) l31 c31 k31
  have g31 := PySem.W.mg_of X G a31
  have b31 := F31.binds (ps := ["outline", "way", "marks_of", "most"]) fun _ _ _ _ _ _ us hl => match us, hl with | [_, _, _, _], _ => rfl
  have F32 := fun_mk (st := top 32) l32 c32 k32
  have g32 := PySem.W.mg_of X G a32
  have b32 := F32.binds (ps := ["lines"]) fun _ _ _ _ _ _ us hl => match us, hl with | [_], _ => rfl
  have F46 := fun_mk (st := top 46) l46 c46 k46
  have g46 := PySem.W.mg_of X G a46
  have b46 := F46.binds (ps := ["words"]) fun _ _ _ _ _ _ us hl => match us, hl with | [_], _ => rfl
  have F47 := fun_mk (st := top 47) l47 c47 k47
  have g47 := PySem.W.mg_of X G a47
  have b47 := F47.binds (ps := ["words"]) fun _ _ _ _ _ _ us hl => match us, hl with | [_], _ => rfl
  have F48 := fun_mk (st := top 48) l48 c48 k48
  have g48 := PySem.W.mg_of X G a48
  have b48 := F48.binds (ps := ["words"]) fun _ _ _ _ _ _ us hl => match us, hl with | [_], _ => rfl
  have F49 := fun_mk (st := top 49) l49 c49 k49
  have g49 := PySem.W.mg_of X G a49
  have b49 := F49.binds (ps := ["words"]) fun _ _ _ _ _ _ us hl => match us, hl with | [_], _ => rfl
  have F50 := fun_mk (st := top 50) l50 c50 k50
  have g50 := PySem.W.mg_of X G a50
  have b50 := F50.binds (ps := ["words"]) fun _ _ _ _ _ _ us hl => match us, hl with | [_], _ => rfl
  have F51 := fun_mk (st := top 51) l51 c51 k51
  have g51 := PySem.W.mg_of X G a51
  have b51 := F51.binds (ps := ["words", "kind"]) fun _ _ _ _ _ _ us hl => match us, hl with | [_, _], _ => rfl
  have F52 := fun_mk (st := top 52) l52 c52 k52
  have g52 := PySem.W.mg_of X G a52
  have b52 := F52.binds (ps := ["words", "kind"]) fun _ _ _ _ _ _ us hl => match us, hl with | [_, _], _ => rfl
  have F53 := fun_mk (st := top 53) l53 c53 k53
  have g53 := PySem.W.mg_of X G a53
  have b53 := F53.binds (ps := ["step"]) fun _ _ _ _ _ _ us hl => match us, hl with | [_], _ => rfl
  have F54 := fun_mk (st := top 54) l54 c54 k54
  have g54 := PySem.W.mg_of X G a54
  have b54 := F54.binds (ps := ["row", "step", "kind"]) fun _ _ _ _ _ _ us hl => match us, hl with | [_, _, _], _ => rfl
  have F61 := fun_mk (st := top 61) l61 c61 k61
  have g61 := PySem.W.mg_of X G a61
  have b61 := F61.binds (ps := ["_law_script"]) fun _ _ _ _ _ _ us hl => match us, hl with | [_], _ => rfl
  have F62 := fun_mk (st := top 62) l62 c62 k62
  have g62 := PySem.W.mg_of X G a62
  have b62 := F62.binds (ps := ["_law_bag_here", "_law_limit"]) fun _ _ _ _ _ _ us hl => match us, hl with | [_, _], _ => rfl
  have F63 := fun_mk (st := top 63) l63 c63 k63
  have g63 := PySem.W.mg_of X G a63
  have b63 := F63.binds (ps := []) fun _ _ _ _ _ _ us hl => match us, hl with | [], _ => rfl
  have F64 := fun_mk (st := top 64) l64 c64 k64
  have g64 := PySem.W.mg_of X G a64
  have b64 := F64.binds (ps := []) fun _ _ _ _ _ _ us hl => match us, hl with | [], _ => rfl
  have F65 := fun_mk (st := top 65) l65 c65 k65
  have g65 := PySem.W.mg_of X G a65
  have b65 := F65.binds (ps := ["_law_bag_here"]) fun _ _ _ _ _ _ us hl => match us, hl with | [_], _ => rfl
  have F66 := fun_mk (st := top 66) l66 c66 k66
  have g66 := PySem.W.mg_of X G a66
  have b66 := F66.binds (ps := ["_law_bag_here"]) fun _ _ _ _ _ _ us hl => match us, hl with | [_], _ => rfl
  have F67 := fun_mk (st := top 67) l67 c67 k67
  have g67 := PySem.W.mg_of X G a67
  have b67 := F67.binds (ps := ["_law_bag_here"]) fun _ _ _ _ _ _ us hl => match us, hl with | [_], _ => rfl
  have F68 := fun_mk (st := top 68) l68 c68 k68
  have g68 := PySem.W.mg_of X G a68
  have b68 := F68.binds (ps := ["_law_bag_here"]) fun _ _ _ _ _ _ us hl => match us, hl with | [_], _ => rfl
  have F69 := fun_mk (st := top 69) l69 c69 k69
  have g69 := PySem.W.mg_of X G a69
  have b69 := F69.binds (ps := ["_law_bag_here", "_law_deep", "_law_left"]) fun _ _ _ _ _ _ us hl => match us, hl with | [_, _, _], _ => rfl
  have F70 := fun_mk (st := top 70) l70 c70 k70
  have g70 := PySem.W.mg_of X G a70
  have b70 := F70.binds (ps := ["_law_bag_here"]) fun _ _ _ _ _ _ us hl => match us, hl with | [_], _ => rfl
  have F71 := fun_mk (st := top 71) l71 c71 k71
  have g71 := PySem.W.mg_of X G a71
  have b71 := F71.binds (ps := ["_law_word"]) fun _ _ _ _ _ _ us hl => match us, hl with | [_], _ => rfl
  have F72 := fun_mk (st := top 72) l72 c72 k72
  have g72 := PySem.W.mg_of X G a72
  have b72 := F72.binds (ps := ["_law_words"]) fun _ _ _ _ _ _ us hl => match us, hl with | [_], _ => rfl
  have F73 := fun_mk (st := top 73) l73 c73 k73
  have g73 := PySem.W.mg_of X G a73
  have b73 := F73.binds (ps := ["_law_words"]) fun _ _ _ _ _ _ us hl => match us, hl with | [_], _ => rfl
  have F74 := fun_mk (st := top 74) l74 c74 k74
  have g74 := PySem.W.mg_of X G a74
  have b74 := F74.binds (ps := ["_law_words"]) fun _ _ _ _ _ _ us hl => match us, hl with | [_], _ => rfl
  have F75 := fun_mk (st := top 75) l75 c75 k75
  have g75 := PySem.W.mg_of X G a75
  have b75 := F75.binds (ps := ["_law_line"]) fun _ _ _ _ _ _ us hl => match us, hl with | [_], _ => rfl
  have F76 := fun_mk (st := top 76) l76 c76 k76
  have g76 := PySem.W.mg_of X G a76
  have b76 := F76.binds (ps := ["_law_bag_here", "_law_line"]) fun _ _ _ _ _ _ us hl => match us, hl with | [_, _], _ => rfl
  have F77 := fun_mk (st := top 77) l77 c77 k77
  have g77 := PySem.W.mg_of X G a77
  have b77 := F77.binds (ps := ["_law_lines_here"]) fun _ _ _ _ _ _ us hl => match us, hl with | [_], _ => rfl
  have F78 := fun_mk (st := top 78) l78 c78 k78
  have g78 := PySem.W.mg_of X G a78
  have b78 := F78.binds (ps := ["_law_row"]) fun _ _ _ _ _ _ us hl => match us, hl with | [_], _ => rfl
  have F79 := fun_mk (st := top 79) l79 c79 k79
  have g79 := PySem.W.mg_of X G a79
  have b79 := F79.binds (ps := ["_law_bag_here", "_law_told_here", "_law_lines_here", "_law_place"]) fun _ _ _ _ _ _ us hl => match us, hl with | [_, _, _, _], _ => rfl
  have F80 := fun_mk (st := top 80) l80 c80 k80
  have g80 := PySem.W.mg_of X G a80
  have Fm0 := fun_mk (st := sOI) lm0 cm0 km0
  have bm0 := Fm0.binds (ps := ["self", "rows", "steps"]) fun _ _ _ _ _ _ us hl => match us, hl with | [_, _, _], _ => rfl
  have Fm1 := fun_mk (st := sStepAt) lm1 cm1 km1
  have bm1 := Fm1.binds (ps := ["self", "line"]) fun _ _ _ _ _ _ us hl => match us, hl with | [_, _], _ => rfl
  have Fm2 := fun_mk (st := sTargetAt) lm2 cm2 km2
  have bm2 := Fm2.binds (ps := ["self", "line"]) fun _ _ _ _ _ _ us hl => match us, hl with | [_, _], _ => rfl
  have Fm3 := fun_mk (st := sMany) lm3 cm3 km3
  have bm3 := Fm3.binds (ps := ["self"]) fun _ _ _ _ _ _ us hl => match us, hl with | [_], _ => rfl
  have Fm4 := fun_mk (st := sBI) lm4 cm4 km4
  have bm4 := Fm4.binds (ps := ["self", "kind", "rules", "text"]) fun _ _ _ _ _ _ us hl => match us, hl with | [_, _, _, _], _ => rfl
  have Fm5 := fun_mk (st := sBR) lm5 cm5 km5
  have bm5 := Fm5.binds (ps := ["self", "unit", "least"]) fun _ _ _ _ _ _ us hl => match us, hl with | [_, _, _], _ => rfl
  have TN : TxtN mg := ⟨(PySem.W.mg_none_of X G z0), (PySem.W.mg_none_of X G z1), (PySem.W.mg_none_of X G z2), (PySem.W.mg_none_of X G z3), (PySem.W.mg_none_of X G z4), (PySem.W.mg_none_of X G z5), (PySem.W.mg_none_of X G z6), (PySem.W.mg_none_of X G z7), (PySem.W.mg_none_of X G z8), ⟨_, PySem.W.mg_of X G aiF⟩, ⟨_, PySem.W.mg_of X G aiT⟩, ⟨_, PySem.W.mg_of X G aiP⟩⟩
  have TB : TxtB mg := ⟨(PySem.W.mg_none_of X G z2), (PySem.W.mg_none_of X G z3), (PySem.W.mg_none_of X G z6), (PySem.W.mg_none_of X G z4)⟩
  have TT : TxtT K mg := ⟨⟨_, PySem.W.mg_of X G aqC, tup_K lqC vqC (by decide)⟩⟩
  have TW : TxtW K mg := ⟨⟨_, PySem.W.mg_of X G aqE, tup_K lqE vqE (by decide)⟩⟩
  have TWh : TxtWh mg := ⟨(PySem.W.mg_none_of X G z0), (PySem.W.mg_none_of X G z3), (PySem.W.mg_none_of X G z9)⟩
  have TC : TxtC K w mg := ⟨⟨_, PySem.W.mg_of X G aqK, tup_K lqK vqK (by decide)⟩, ⟨_, PySem.W.mg_of X G aqR, tup_K lqR vqR (by decide)⟩, ⟨_, PySem.W.mg_of X G aqP, tup_K lqP vqP (by decide)⟩, ⟨_, PySem.W.mg_of X G aqN, tup_K lqN vqN (by decide)⟩, ⟨_, PySem.W.mg_of X G aqL, tup_K lqL vqL (by decide)⟩, ⟨_, PySem.W.mg_of X G aqM, tup_K lqM vqM (by decide)⟩, ⟨_, PySem.W.mg_of X G aqX, tup_K lqX vqX (by decide)⟩, ⟨_, PySem.W.mg_of X G aqW, tup_K lqW vqW (by decide)⟩, ⟨_, _, _, PySem.W.mg_of X G aFL, ⟨lFL, wFL, loFL⟩, flags_at lFL eFL⟩⟩
  have TO : TxtO K mg CO := ⟨⟨o_pg, o_hd, o_po, o_sa⟩, o_nrows, o_nsteps, o_ntargets, PySem.W.mg_of X G o_g⟩
  have TK : TxtK K w mg CH := ⟨⟨h_pg, h_hd, h_po, h_sa⟩, h_nkind, h_nrules, h_ntext, h_noutline, h_nfindings, PySem.W.mg_of X G h_g, ⟨_, PySem.W.mg_of X G aiL⟩, ⟨_, PySem.W.mg_of X G aiI⟩, ⟨_, PySem.W.mg_of X G aMO, _, _, ⟨lMO, wMO, loMO⟩, eMO, by decide +kernel, by decide⟩, (PySem.W.mg_none_of X G z10)⟩
  have TBR : TxtBR K mg CB := ⟨⟨r_pg, r_hd, r_po, r_sa⟩, r_nunit, r_nleast, PySem.W.mg_of X G r_g, ⟨_, PySem.W.mg_of X G aiU⟩, ⟨_, PySem.W.mg_of X G aiV⟩⟩
  have TR : TxtR PP K mg CR fI cc cda := ⟨PySem.W.mg_of X G e_a, ⟨⟨_, _, _, _, _, _, _, _, _, _, _, _, _, _, _, e_xL, e_hbm⟩, e_sa, e_iC, e_tI, e_kC, e_exC, e_veC, e_meC, e_tyC, e_sup, e_opq, e_gS, ⟨_, _, _, e_cell⟩, ⟨_, _, _, _, _, _, e_code, e_hvs, e_hfile⟩, e_rc, ⟨_, _, _, _, _, _, _, _, e_fn⟩⟩, eb_ref, fun g hg => by
    rw [List.mem_singleton.mp hg]
    exact e_n1, (PySem.W.mg_none_of X G z8)⟩
  have TL : TxtL PP K mg CL fIz ccz cdaz := ⟨PySem.W.mg_of X G f_a, ⟨⟨_, _, _, _, _, _, _, _, _, _, _, _, _, _, _, f_xL, f_hbm⟩, f_sa, f_iC, f_tI, f_kC, f_exC, f_veC, f_meC, f_tyC, f_sup, f_opq, f_gS, ⟨_, _, _, f_cell⟩, ⟨_, _, _, _, _, _, f_code, f_hvs, f_hfile⟩, f_rc, ⟨_, _, _, _, _, _, _, _, f_fn⟩⟩, eb_bad, fun g hg => by
    rw [List.mem_singleton.mp hg]
    exact f_n1⟩
  have TM : TxtM PP K mg CT fIy ccy cday := ⟨PySem.W.mg_of X G g_a, ⟨⟨_, _, _, _, _, _, _, _, _, _, _, _, _, _, _, g_xL, g_hbm⟩, g_sa, g_iC, g_tI, g_kC, g_exC, g_veC, g_meC, g_tyC, g_sup, g_opq, g_gS, ⟨_, _, _, g_cell⟩, ⟨_, _, _, _, _, _, g_code, g_hvs, g_hfile⟩, g_rc, ⟨_, _, _, _, _, _, _, _, g_fn⟩⟩, eb_many, fun g hg => by
    rcases List.mem_cons.mp hg with e | hg
    · rw [e]; exact g_n1
    rcases List.mem_cons.mp hg with e | hg
    · rw [e]; exact g_n2
    · rw [List.mem_singleton.mp hg]; exact g_n3⟩
  have MO : Mk K CO fm0 := ⟨o_mk, am0, jm0, o_kc⟩
  have MH : Mk K CH fm4 := ⟨h_mk, am4, jm4, h_kc⟩
  have MB : Mk K CB fm5 := ⟨r_mk, am5, jm5, r_kc⟩
  refine ⟨PySem.W.fnOf "law" "law" (defArgs (top 80)) (defBody (top 80)) (defScope (top 80)) .none kV80 dc80 pm80 an80 cd80 ct80, fun s v => .of_eq rfl, fun base _ _ => ?_⟩
  have O17 := ok_num (P := PP) (w := w) (base := base) F17 TN
  have O18 := ok_term (P := PP) (w := w) (base := base) F18 TN F17 b17 g17
  have O19 := ok_sum F19 TN O18 k18 b18 g18
  have O20 := ok_comp F20 TN TT O18 k18 b18 g18
  have O21 := ok_parted (P := PP) (w := w) (mg := mg) (base := base) F21
  have O46 := ok_reg F46 TN TC O19 k19 b19 g19
  have O47 := ok_place F47 TN TC O19 k19 b19 g19
  have O48 := ok_sized F48 TN TC O19 k19 b19 g19
  have O49 := ok_flag (P := PP) (base := base) F49 TN TC
  have O50 := ok_tie (P := PP) (base := base) F50 TN TC
  have O51 := ok_step F51 TN TC O46 k46 b46 g46 O47 k47 b47 g47 O48 k48 b48 g48 O49 k49 b49 g49 O50 k50 b50 g50
  have O52 := ok_hpart F52 TN TC O20 k20 b20 g20
  have O22 := ok_test F22 TN O21 k21 b21 g21 (by decide) O52 k52 b52
  have O53 := ok_marks (P := PP) (w := w) (base := base) F53 TC
  have O54 := ok_foreign (P := PP) (w := w) (mg := mg) (base := base) F54
  have O16 := ok_lines (P := PP) (w := w) (mg := mg) (base := base) F16
  have O26 := ok_targets (P := PP) (w := w) (base := base) F26 TN
  have Om0 := ok_oinit Fm0 TN TO O26 k26 b26 g26
  have Om1 := ok_stepat (P := PP) (w := w) (base := base) Fm1 TO
  have Om2 := ok_targetat (P := PP) (w := w) (base := base) Fm2 TO
  have Om3 := ok_many (P := PP) (w := w) (base := base) Fm3 TN TO
  have O28 := ok_read F28 O22 k22 b22 g22 O51 k51 b51
  have O29 := ok_outl F29 TN TO O16 k16 b16 g16 O28 k28 b28 g28 MO Om0 bm0
  have O30 := ok_ways F30 TN TO TW Om3 ⟨am3, jm3, km3⟩ bm3 Om1 ⟨am1, jm1, km1⟩ bm1 Om2 ⟨am2, jm2, km2⟩ bm2
  have O31 := ok_above F31 TN TO Om1 ⟨am1, jm1, km1⟩ bm1 O53 k53 b53
  have O32 := ok_refuse (w := w) (base := base) F32 TN TR
  have O15 := ok_among (P := PP) (w := w) (base := base) F15 TN
  have O13 := ok_wh (P := PP) (w := w) (K := K) (base := base) F13 TWh
  have O14 := ok_from F14 O13 k13 b13 g13
  have Om5 := ok_rinit Fm5 TBR O14 k14 b14 g14
  have Om4 := ok_binit Fm4 TN TC TK TO O15 k15 b15 g15 O29 k29 b29 r29 g29 g51 g52 g53 O30 k30 b30 g30 O31 k31 b31 g31 O32 k32 b32 g32 O54 k54 b54 g54 Om3 ⟨am3, jm3, km3⟩ bm3 Om1 ⟨am1, jm1, km1⟩ bm1
  have TS2 : TxtS2 mg := ⟨(PySem.W.mg_none_of X G z11)⟩
  have TS3 : TxtS3 mg := ⟨(PySem.W.mg_none_of X G z1), (PySem.W.mg_none_of X G z3), (PySem.W.mg_none_of X G z4)⟩
  have O29b := ok_outlBad F29 TN TL O16 k16 b16 g16 O28 k28 b28 g28
  have O29m := ok_outlIfs F29 TN TM O16 k16 b16 g16 O28 k28 b28 g28
  have Ob := ok_btext Fm4 TC TK O15 k15 b15 g15 O29b k29 b29 r29 g29 g51 g52 (fun _ _ _ _ z => z)
  have Om := ok_btext Fm4 TC TK O15 k15 b15 g15 O29m k29 b29 r29 g29 g51 g52 (fun _ _ _ _ z => z)
  have Oc := ok_codeT (CO := CO) Om4 Ob Om
  have O61 := ok_bag (P := PP) (w := w) (base := base) F61 TB
  have O62 := ok_draw (P := PP) (w := w) (K := K) (base := base) F62 TB
  have O63 := ok_names (P := PP) (w := w) (mg := mg) (base := base) F63
  have O63f := ok_namesF (P := PP) (w := w) (mg := mg) (base := base) F63
  have O64 := ok_places (P := PP) (w := w) (mg := mg) (base := base) F64
  have O65 := ok_number F65 TS3 O62 k62 b62 g62
  have O66 := ok_dsum F66 TN TS3 O62 k62 b62 g62 O63f k63 b63 g63 O65 k65 b65 g65
  have O67 := ok_dtest F67 TN TS3 O62 k62 b62 g62 O63f k63 b63 g63 O64 k64 b64 g64 O65 k65 b65 g65
  have O68 := ok_dplain F68 TN TS3 O62 k62 b62 g62 O64 k64 b64 g64 O66 k66 b66 g66
  have O69 := ok_dls F69 TB O62 k62 b62 g62 O67 k67 b67 g67 O68 k68 b68 g68 g69 b69 3
  have O70 := ok_bad F70 TN O62 k62 b62 g62
  have O71 := ok_isnum (P := PP) (w := w) (base := base) F71 TN
  have O72 := ok_issum F72 TN TS2 O71 k71 b71 g71 O63 k63 b63 g63
  have O73 := ok_ispart F73 TN O72 k72 b72 g72 O64 k64 b64 g64
  have O74 := ok_isset F74 TN O72 k72 b72 g72 O64 k64 b64 g64
  have O75 := ok_isline F75 TN O72 k72 b72 g72 O64 k64 b64 g64 O73 k73 b73 g73 O74 k74 b74 g74
  have O76 := ok_spoil F76 TN O62 k62 b62 g62
  have O77 := ok_told F77 MH Oc bm4 (PySem.W.mg_of X G h_g) MB Om5 bm5 (PySem.W.mg_of X G r_g) (PySem.W.mg_of X G f_a) (PySem.W.mg_of X G x_o) f_xm x_FL x_ML x_FO x_MO ⟨f_ga, f_gg, f_exC, f_hd⟩ f_n1
  have O78 := ok_open1 (P := PP) (w := w) (K := K) (base := base) F78 TB
  have O79 := ok_spot F79 TN O62 k62 b62 g62 O70 k70 b70 g70 O76 k76 b76 g76 O77 k77 b77 g77 O75 k75 b75 g75
  exact ok_law F80 TB O61 k61 b61 g61 O62 k62 b62 g62 O69 k69 b69 g69 O78 k78 b78 g78 O77 k77 b77 g77 O79 k79 b79 g79
theorem walk {l : PySem.W.OpenLaw} {q : Program} {loose : List Str} {XP : (Str → Option Value) → Heap → Prop} {YP : World → Heap → Prop} {d : DefRec} {K : Params → PySem.W.Frag} (hn : l.most = some 63) (hdf : d.params.defaults = [])
    (hY : ∀ (w : World) (h : Heap), YP w h → (K w.params).In h)
    (F : ∀ (w : World) (mg : Str → Option Value) (fa : Addr) (h : Heap), (K w.params).In h → h.Ns mainGlobals mg → mg d.name = some (.ref fa) →
      ∃ fd : FuncData, (∀ (s : Shared) (u : Value), BindsTo s fd ⟨[u], []⟩ [("_law_script", u)]) ∧ ∀ base : Heap, (K w.params).In base → base.Ns mainGlobals mg → FnOk l.prog w (K w.params) mg base CX0 12 fa fd ["_law_script"] (spLaw (K w.params))) :
    PySem.W.WalkO q loose XP YP l.row.toRowW d [] (fun f vs => PySem.call f vs) :=
  L2.walk_of (n := 63) (k := 12) (x := "_law_script") (CX := fun _ => CX0) (sp := fun w => spLaw (K w.params)) hn (by decide) hdf ⟨rfl, by decide, by decide⟩ hY F (fun _ _ a ns hl _ hS => ⟨a, ns, rfl, hS, hl, fun _ => rfl⟩) fun _ _ _ _ _ z => z
end
end K14

set_option Elab.async false
set_option linter.all false
set_option maxRecDepth 100000
open PySem PySem.W PyProof.Rows
set_option maxRecDepth 100000 in
set_option maxHeartbeats 0 in
theorem PySem.Challenge.cw_tagblocks_k14_whole_block_lines_read_holds : PySem.Challenge.rw_tagblocks_k14_whole_block_lines_read.Holds := by
  w_on; o_law; k_head; (case hw => w_witness2)
  k_fill
  refine K14.walk (l := PySem.Challenge.rw_tagblocks_k14_whole_block_lines_read) rfl rfl (fun w h Y => PySem.W.kIn_of Y) ?F
  case F =>
    intro w mg fa h KX G hmg
    refine' K14.all_mk KX G hmg ?a13 ?l13 ?c13 ?k13 ?a14 ?l14 ?c14 ?k14 ?a15 ?l15 ?c15 ?k15 ?a16 ?l16 ?c16 ?k16 ?a17 ?l17 ?c17 ?k17 ?a18 ?l18 ?c18 ?k18 ?a19 ?l19 ?c19 ?k19 ?a20 ?l20 ?c20 ?k20 ?a21 ?l21 ?c21 ?k21 ?a22 ?l22 ?c22 ?k22 ?a26 ?l26 ?c26 ?k26 ?a28 ?l28 ?c28 ?k28 ?a29 ?l29 ?c29 ?k29 ?a30 ?l30 ?c30 ?k30 ?a31 ?l31 ?c31 ?k31 ?a32 ?l32 ?c32 ?k32 ?a46 ?l46 ?c46 ?k46 ?a47 ?l47 ?c47 ?k47 ?a48 ?l48 ?c48 ?k48 ?a49 ?l49 ?c49 ?k49 ?a50 ?l50 ?c50 ?k50 ?a51 ?l51 ?c51 ?k51 ?a52 ?l52 ?c52 ?k52 ?a53 ?l53 ?c53 ?k53 ?a54 ?l54 ?c54 ?k54 ?a61 ?l61 ?c61 ?k61 ?a62 ?l62 ?c62 ?k62 ?a63 ?l63 ?c63 ?k63 ?a64 ?l64 ?c64 ?k64 ?a65 ?l65 ?c65 ?k65 ?a66 ?l66 ?c66 ?k66 ?a67 ?l67 ?c67 ?k67 ?a68 ?l68 ?c68 ?k68 ?a69 ?l69 ?c69 ?k69 ?a70 ?l70 ?c70 ?k70 ?a71 ?l71 ?c71 ?k71 ?a72 ?l72 ?c72 ?k72 ?a73 ?l73 ?c73 ?k73 ?a74 ?l74 ?c74 ?k74 ?a75 ?l75 ?c75 ?k75 ?a76 ?l76 ?c76 ?k76 ?a77 ?l77 ?c77 ?k77 ?a78 ?l78 ?c78 ?k78 ?a79 ?l79 ?c79 ?k79 ?a80 ?l80 ?c80 ?k80 ?am0 ?jm0 ?lm0 ?cm0 ?km0 ?am1 ?jm1 ?lm1 ?cm1 ?km1 ?am2 ?jm2 ?lm2 ?cm2 ?km2 ?am3 ?jm3 ?lm3 ?cm3 ?km3 ?am4 ?jm4 ?lm4 ?cm4 ?km4 ?am5 ?jm5 ?lm5 ?cm5 ?km5 ?lD ?lDs ?o_g ?o_pg ?o_hd ?o_po ?o_sa ?o_mk ?o_kc ?o_nrows ?o_nsteps ?o_ntargets ?h_g ?h_pg ?h_hd ?h_po ?h_sa ?h_mk ?h_kc ?h_nkind ?h_nrules ?h_ntext ?h_noutline ?h_nfindings ?r_g ?r_pg ?r_hd ?r_po ?r_sa ?r_mk ?r_kc ?r_nunit ?r_nleast ?aqC ?lqC ?vqC ?aqE ?lqE ?vqE ?aqK ?lqK ?vqK ?aqR ?lqR ?vqR ?aqP ?lqP ?vqP ?aqN ?lqN ?vqN ?aqL ?lqL ?vqL ?aqM ?lqM ?vqM ?aqX ?lqX ?vqX ?aqW ?lqW ?vqW ?aiF ?aiT ?aiP ?aiL ?aiI ?aiU ?aiV ?z0 ?z1 ?z2 ?z3 ?z4 ?z5 ?z6 ?z7 ?z8 ?z9 ?z10 ?z11 ?aMO ?lMO ?wMO ?eMO ?loMO ?aFL ?lFL ?wFL ?loFL ?eFL ?e_a ?e_xL ?e_hbm ?e_sa ?e_iC ?e_tI ?e_kC ?e_exC ?e_veC ?e_meC ?e_tyC ?e_sup ?e_opq ?e_gS ?e_fn ?e_cell ?e_code ?e_hvs ?e_hfile ?e_rc ?e_n1 ?e_ga ?e_gg ?e_hd ?e_xm ?f_a ?f_xL ?f_hbm ?f_sa ?f_iC ?f_tI ?f_kC ?f_exC ?f_veC ?f_meC ?f_tyC ?f_sup ?f_opq ?f_gS ?f_fn ?f_cell ?f_code ?f_hvs ?f_hfile ?f_rc ?f_n1 ?f_ga ?f_gg ?f_hd ?f_xm ?g_a ?g_xL ?g_hbm ?g_sa ?g_iC ?g_tI ?g_kC ?g_exC ?g_veC ?g_meC ?g_tyC ?g_sup ?g_opq ?g_gS ?g_fn ?g_cell ?g_code ?g_hvs ?g_hfile ?g_rc ?g_n1 ?g_n2 ?g_n3 ?g_ga ?g_gg ?g_hd ?g_xm ?x_o ?x_FL ?x_ML ?x_FO ?x_MO
    (case o_g => k_is); (case h_g => k_is); (case r_g => k_is); (case a13 => k_is); (case l13 => k_is); (case c13 => k_is)
    (case k13 => k_is); (case a14 => k_is); (case l14 => k_is); (case c14 => k_is); (case k14 => k_is); (case a15 => k_is)
    (case l15 => k_is); (case c15 => k_is); (case k15 => k_is); (case a16 => k_is); (case l16 => k_is); (case c16 => k_is)
    (case k16 => k_is); (case a17 => k_is); (case l17 => k_is); (case c17 => k_is); (case k17 => k_is); (case a18 => k_is)
    (case l18 => k_is); (case c18 => k_is); (case k18 => k_is); (case a19 => k_is); (case l19 => k_is); (case c19 => k_is)
    (case k19 => k_is); (case a20 => k_is); (case l20 => k_is); (case c20 => k_is); (case k20 => k_is); (case a21 => k_is)
    (case l21 => k_is); (case c21 => k_is); (case k21 => k_is); (case a22 => k_is); (case l22 => k_is); (case c22 => k_is)
    (case k22 => k_is); (case a26 => k_is); (case l26 => k_is); (case c26 => k_is); (case k26 => k_is); (case a28 => k_is)
    (case l28 => k_is); (case c28 => k_is); (case k28 => k_is); (case a29 => k_is); (case l29 => k_is); (case c29 => k_is)
    (case k29 => k_is); (case a30 => k_is); (case l30 => k_is); (case c30 => k_is); (case k30 => k_is); (case a31 => k_is)
    (case l31 => k_is); (case c31 => k_is); (case k31 => k_is); (case a32 => k_is); (case l32 => k_is); (case c32 => k_is)
    (case k32 => k_is); (case a46 => k_is); (case l46 => k_is); (case c46 => k_is); (case k46 => k_is); (case a47 => k_is)
    (case l47 => k_is); (case c47 => k_is); (case k47 => k_is); (case a48 => k_is); (case l48 => k_is); (case c48 => k_is)
    (case k48 => k_is); (case a49 => k_is); (case l49 => k_is); (case c49 => k_is); (case k49 => k_is); (case a50 => k_is)
    (case l50 => k_is); (case c50 => k_is); (case k50 => k_is); (case a51 => k_is); (case l51 => k_is); (case c51 => k_is)
    (case k51 => k_is); (case a52 => k_is); (case l52 => k_is); (case c52 => k_is); (case k52 => k_is); (case a53 => k_is)
    (case l53 => k_is); (case c53 => k_is); (case k53 => k_is); (case a54 => k_is); (case l54 => k_is); (case c54 => k_is)
    (case k54 => k_is); (case a61 => k_is); (case l61 => k_is); (case c61 => k_is); (case k61 => k_is); (case a62 => k_is)
    (case l62 => k_is); (case c62 => k_is); (case k62 => k_is); (case a63 => k_is); (case l63 => k_is); (case c63 => k_is)
    (case k63 => k_is); (case a64 => k_is); (case l64 => k_is); (case c64 => k_is); (case k64 => k_is); (case a65 => k_is)
    (case l65 => k_is); (case c65 => k_is); (case k65 => k_is); (case a66 => k_is); (case l66 => k_is); (case c66 => k_is)
    (case k66 => k_is); (case a67 => k_is); (case l67 => k_is); (case c67 => k_is); (case k67 => k_is); (case a68 => k_is)
    (case l68 => k_is); (case c68 => k_is); (case k68 => k_is); (case a69 => k_is); (case l69 => k_is); (case c69 => k_is)
    (case k69 => k_is); (case a70 => k_is); (case l70 => k_is); (case c70 => k_is); (case k70 => k_is); (case a71 => k_is)
    (case l71 => k_is); (case c71 => k_is); (case k71 => k_is); (case a72 => k_is); (case l72 => k_is); (case c72 => k_is)
    (case k72 => k_is); (case a73 => k_is); (case l73 => k_is); (case c73 => k_is); (case k73 => k_is); (case a74 => k_is)
    (case l74 => k_is); (case c74 => k_is); (case k74 => k_is); (case a75 => k_is); (case l75 => k_is); (case c75 => k_is)
    (case k75 => k_is); (case a76 => k_is); (case l76 => k_is); (case c76 => k_is); (case k76 => k_is); (case a77 => k_is)
    (case l77 => k_is); (case c77 => k_is); (case k77 => k_is); (case a78 => k_is); (case l78 => k_is); (case c78 => k_is)
    (case k78 => k_is); (case a79 => k_is); (case l79 => k_is); (case c79 => k_is); (case k79 => k_is); (case a80 => k_is)
    (case l80 => k_is); (case c80 => k_is); (case k80 => k_is); (case am0 => k_is); (case jm0 => k_is); (case lm0 => k_is)
    (case cm0 => k_is); (case km0 => k_is); (case am1 => k_is); (case jm1 => k_is); (case lm1 => k_is); (case cm1 => k_is)
    (case km1 => k_is); (case am2 => k_is); (case jm2 => k_is); (case lm2 => k_is); (case cm2 => k_is); (case km2 => k_is)
    (case am3 => k_is); (case jm3 => k_is); (case lm3 => k_is); (case cm3 => k_is); (case km3 => k_is); (case am4 => k_is)
    (case jm4 => k_is); (case lm4 => k_is); (case cm4 => k_is); (case km4 => k_is); (case am5 => k_is); (case jm5 => k_is)
    (case lm5 => k_is); (case cm5 => k_is); (case km5 => k_is); (case lD => k_is); (case lDs => rfl); (case o_pg => k_is)
    (case o_hd => k_is); (case o_po => k_is); (case o_sa => k_is); (case o_mk => k_is); (case o_kc => k_is); (case o_nrows => k_is)
    (case o_nsteps => k_is); (case o_ntargets => k_is); (case h_pg => k_is); (case h_hd => k_is); (case h_po => k_is); (case h_sa => k_is)
    (case h_mk => k_is); (case h_kc => k_is); (case h_nkind => k_is); (case h_nrules => k_is); (case h_ntext => k_is); (case h_noutline => k_is)
    (case h_nfindings => k_is); (case r_pg => k_is); (case r_hd => k_is); (case r_po => k_is); (case r_sa => k_is); (case r_mk => k_is)
    (case r_kc => k_is); (case r_nunit => k_is); (case r_nleast => k_is); (case aqC => k_is); (case lqC => k_is); (case vqC => rfl)
    (case aqE => k_is); (case lqE => k_is); (case vqE => rfl); (case aqK => k_is); (case lqK => k_is); (case vqK => rfl)
    (case aqR => k_is); (case lqR => k_is); (case vqR => rfl); (case aqP => k_is); (case lqP => k_is); (case vqP => rfl)
    (case aqN => k_is); (case lqN => k_is); (case vqN => rfl); (case aqL => k_is); (case lqL => k_is); (case vqL => rfl)
    (case aqM => k_is); (case lqM => k_is); (case vqM => rfl); (case aqX => k_is); (case lqX => k_is); (case vqX => rfl)
    (case aqW => k_is); (case lqW => k_is); (case vqW => rfl); (case aiF => k_is); (case aiT => k_is); (case aiP => k_is)
    (case aiL => k_is); (case aiI => k_is); (case aiU => k_is); (case aiV => k_is); (case z0 => k_is); (case z1 => k_is)
    (case z2 => k_is); (case z3 => k_is); (case z4 => k_is); (case z5 => k_is); (case z6 => k_is); (case z7 => k_is)
    (case z8 => k_is); (case z9 => k_is); (case z10 => k_is); (case z11 => k_is); (case aMO => k_is); (case lMO => k_is)
    (case wMO => exact He.keysLit_of (ks := K14.markN) rfl); (case eMO => exact ⟨⟨⟨_, rfl⟩, _, rfl⟩, ⟨⟨_, rfl⟩, _, rfl⟩, ⟨⟨_, rfl⟩, _, rfl⟩, ⟨⟨_, rfl⟩, _, rfl⟩, ⟨⟨_, rfl⟩, _, rfl⟩, ⟨⟨_, rfl⟩, _, rfl⟩, ⟨⟨_, rfl⟩, _, rfl⟩, ⟨⟨_, rfl⟩, _, rfl⟩, ⟨⟨_, rfl⟩, _, rfl⟩, trivial⟩); (case loMO => rfl); (case aFL => k_is); (case lFL => k_is); (case wFL => exact He.keysLit_of (ks := K14.flagNames) rfl)
    (case loFL => rfl); (case eFL => rfl); (case e_a => k_is); (case e_xL => k_is); (case e_hbm => decide +kernel); (case e_sa => k_is)
    (case e_iC => k_is); (case e_tI => k_is); (case e_kC => k_is); (case e_exC => k_is); (case e_veC => k_is); (case e_meC => k_is)
    (case e_tyC => k_is); (case e_sup => ks_is); (case e_opq => k_is); (case e_gS => k_is); (case e_fn => k_is); (case e_cell => k_is)
    (case e_code => k_is); (case e_hvs => rfl); (case e_hfile => decide +kernel); (case e_rc => k_is); (case e_n1 => k_is); (case e_ga => k_is)
    (case e_gg => k_is); (case e_hd => k_is); (case e_xm => kernel_rfl); (case f_a => k_is); (case f_xL => k_is); (case f_hbm => decide +kernel)
    (case f_sa => k_is); (case f_iC => k_is); (case f_tI => k_is); (case f_kC => k_is); (case f_exC => k_is); (case f_veC => k_is)
    (case f_meC => k_is); (case f_tyC => k_is); (case f_sup => ks_is); (case f_opq => k_is); (case f_gS => k_is); (case f_fn => k_is)
    (case f_cell => k_is); (case f_code => k_is); (case f_hvs => rfl); (case f_hfile => decide +kernel); (case f_rc => k_is); (case f_n1 => k_is)
    (case f_ga => k_is); (case f_gg => k_is); (case f_hd => k_is); (case f_xm => kernel_rfl); (case g_a => k_is); (case g_xL => k_is)
    (case g_hbm => decide +kernel); (case g_sa => k_is); (case g_iC => k_is); (case g_tI => k_is); (case g_kC => k_is); (case g_exC => k_is)
    (case g_veC => k_is); (case g_meC => k_is); (case g_tyC => k_is); (case g_sup => ks_is); (case g_opq => k_is); (case g_gS => k_is)
    (case g_fn => k_is); (case g_cell => k_is); (case g_code => k_is); (case g_hvs => rfl); (case g_hfile => decide +kernel); (case g_rc => k_is)
    (case g_n1 => k_is); (case g_n2 => k_is); (case g_n3 => k_is); (case g_ga => k_is); (case g_gg => k_is); (case g_hd => k_is)
    (case g_xm => kernel_rfl); (case x_o => k_is); (case x_FL => kernel_rfl); (case x_ML => kernel_rfl); (case x_FO => kernel_rfl); (case x_MO => kernel_rfl)
